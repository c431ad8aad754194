import Derived.Test.YtfleadelfklenaaGreatDoorZGw8
import Derived.Scope
import Derived.Test.YtfleadelfklenaaGreatDoorZGw7
import Derived.Laws.Externs
import Derived.ChangeArms
import Derived.OpenShut
import Derived.FnData
section
namespace Go.VD
set_option linter.unusedVariables false
set_option linter.unusedSimpArgs false
abbrev Callee := FuncId → List D → Heap → Option (D × Heap × Tch)
def prune : List Nat → Env → Env
  | _, [] => []
  | seen, (t, d) :: r => bif seen.contains t then prune seen r else (t, d) :: prune (t :: seen) r
theorem has_of {env : Env} : ∀ {r : Env}, (∀ t d, (t, d) ∈ r → env.lookup t = some d) → Has env r
  | [], _ => trivial
  | (t, d) :: r, h => ⟨h t d (by simp), has_of fun t d hm => h t d (by simp [hm])⟩
theorem prune_mem : ∀ (env : Env) (seen : List Nat) (t : Nat) (d : D), (t, d) ∈ prune seen env → seen.contains t = false ∧ env.lookup t = some d
  | [], seen, t, d, h => by simp [prune] at h
  | (s, e) :: r, seen, t, d, h => by
    simp only [prune] at h
    rw [List.lookup_cons]
    cases hs : seen.contains s with
    | true =>
      simp only [hs, cond_true] at h
      obtain ⟨h1, h2⟩ := prune_mem r seen t d h
      refine ⟨h1, ?_⟩
      have : (t == s) = false := by
        cases hts : t == s
        · rfl
        · have : t = s := by simpa using hts
          subst this; rw [h1] at hs; cases hs
      simp [this, h2]
    | false =>
      simp only [hs, cond_false, List.mem_cons] at h
      rcases h with h | h
      · injection h with h1 h2; subst h1; subst h2
        exact ⟨hs, by simp⟩
      · obtain ⟨h1, h2⟩ := prune_mem r (s :: seen) t d h
        simp only [List.contains_cons, Bool.or_eq_false_iff] at h1
        exact ⟨h1.2, by simp [h1.1, h2]⟩
theorem has_prune (env : Env) : Has env (prune [] env) := has_of fun t d h => (prune_mem env [] t d h).2
def evOp (P : Program) (call : Callee) (T : Tbl) (o : Oper) (env : Env) (H : Heap) : Option (D × Heap × Tch) :=
  match o.op with
  | .call { callee := .value f, args, argTypes } => match opnd env f, getAll env args.toList with
    | some (.fn g k caps), some ds => call g (argsOf k caps ds) H
    | _, _ => none
  | .call { callee := .invoke r name, args, argTypes } => match opnd env r, getAll env args.toList with
    | some (.ifc t d), some ds => match methOf P t name with
      | some g => call g (d :: ds) H
      | none => none
    | _, _ => none
  | op => match opP T env op with
    | some (d, _) => bif opPB T env op then some (d, H, .no) else none
    | none => match opH T env H op with
      | some out => bif opHB T env H op then some (out.d, out.H, out.touch) else none
      | none => none
def evOps (P : Program) (call : Callee) (T : Tbl) (ops : Array Oper) : List Oper → Env → Heap → List Tch → Option (Env × Heap × List Tch)
  | [], env, H, ts => some (env, H, ts)
  | o :: rest, env, H, ts =>
    match o.guard with
    | none => match evOp P call T o env H with
      | some (d, H', t) => evOps P call T ops rest (bindD o.dst d env) H' (t :: ts)
      | none => none
    | some (j, want) => match gslot ops j with
      | none => none
      | some s => match env.lookup s with
        | some (.v (.bool g)) => bif g == want then
            (match evOp P call T o ((s, .v (.bool want)) :: env) H with
            | some (d, H', t) => evOps P call T ops rest (bindD o.dst d ((s, .v (.bool want)) :: env)) H' (t :: ts)
            | none => none)
          else evOps P call T ops rest (bindD o.dst (.v undef) ((s, .v (.bool (!want))) :: env)) H (.no :: ts)
        | some (.v (.tuple us)) => match us.toList with
          | [] => evOps P call T ops rest (bindD o.dst (.v undef) env) H (.no :: ts)
          | _ => none
        | _ => none
def evIter (body : Env → Heap → Option (Exit × Env × Heap)) : Nat → Env → Heap → Option (Exit × Env × Heap)
  | 0, _, _ => none
  | n + 1, env, H => match body env H with
    | some (.normal, env', H') => evIter body n (prune [] env') H'
    | r => r
def evJump (body : Env → Heap → Option (Exit × Env × Heap)) (l : Nat) : Nat → Env → Heap → Option (Exit × Env × Heap)
  | 0, _, _ => none
  | n + 1, env, H => match body env H with
    | some (.goto l', env', H') => bif Nat.beq l' l then evJump body l n (prune [] env') H' else none
    | r => r
def keysOf (env : Env) : List Nat := (prune [] env).map (·.1)
def restrict (env : Env) : List Nat → Env
  | [] => []
  | s :: r => match env.lookup s with
    | some d => (s, d) :: restrict env r
    | none => restrict env r
theorem has_restrict (env : Env) : ∀ ks, Has env (restrict env ks)
  | [] => trivial
  | s :: r => by
    simp only [restrict]
    split
    · rename_i d h; exact ⟨h, has_restrict env r⟩
    · exact has_restrict env r
def namesE (env : Env) : List Nat := env.flatMap fun p => namesD p.2
def dropGo (used : List Nat) (k : Nat) : Nat → Heap → Heap
  | _, [] => []
  | i, x :: r => (bif Nat.blt i k || used.contains i then x else none) :: dropGo used k (i + 1) r
theorem dropGo_get (used : List Nat) (k : Nat) : ∀ (H : Heap) (i : Nat), (dropGo used k i H).length = H.length ∧ ∀ (b : Nat) (blk : Blk), (dropGo used k i H)[b]? = some (some blk) → H[b]? = some (some blk)
  | [], i => ⟨rfl, fun b blk h => by simp [dropGo] at h⟩
  | x :: r, i => by
    obtain ⟨h1, h2⟩ := dropGo_get used k r (i + 1)
    refine ⟨by simp [dropGo, h1], fun b blk h => ?_⟩
    simp only [dropGo] at h
    cases b with
    | zero =>
      simp only [List.getElem?_cons_zero, Option.some.injEq] at h ⊢
      cases hc : (Nat.blt i k || used.contains i) with
      | true => rw [hc] at h; exact h
      | false => rw [hc] at h; cases h
    | succ b => simpa using h2 b blk (by simpa using h)
def dropNew (env : Env) (k : Nat) (H : Heap) : Heap := dropGo (namesE env ++ namesH H) k 0 H
theorem dropNew_drops (env : Env) (k : Nat) (H : Heap) : Drops H (dropNew env k H) := ⟨(dropGo_get _ k H 0).1, (dropGo_get _ k H 0).2⟩
def sameX : Exit → Exit → Bool
  | .normal, .normal => true
  | .ret, .ret => true
  | .exit a, .exit b => Nat.beq a b
  | .goto a, .goto b => Nat.beq a b
  | _, _ => false
theorem sameX_eq {a b : Exit} (h : sameX a b = true) : a = b := by
  unfold sameX at h
  split at h
  · rfl
  · rfl
  · rw [Nat.eq_of_beq_eq_true h]
  · rw [Nat.eq_of_beq_eq_true h]
  · cases h
def mergeO (ks : List Nat) (k : Nat) : Option (Exit × Env × Heap) → Option (Exit × Env × Heap) → Option (Exit × Env × Heap)
  | some (e1, v1, h1), some (e2, v2, h2) => bif sameX e1 e2 && (sameE (restrict v1 ks) (restrict v2 ks) && sameH (dropNew (restrict v1 ks) k h1) (dropNew (restrict v2 ks) k h2)) then some (e1, restrict v1 ks, dropNew (restrict v1 ks) k h1) else none
  | _, _ => none
theorem mergeO_some {ks : List Nat} {k : Nat} {r1 r2 : Option (Exit × Env × Heap)} {e : Exit} {env : Env} {H : Heap} (h : mergeO ks k r1 r2 = some (e, env, H)) :
    (∃ v1 h1, r1 = some (e, v1, h1) ∧ Has v1 env ∧ Drops h1 H) ∧ ∃ v2 h2, r2 = some (e, v2, h2) ∧ Has v2 env ∧ Drops h2 H := by
  unfold mergeO at h
  split at h
  · rename_i e1 v1 h1 e2 v2 h2
    cases hc : (sameX e1 e2 && (sameE (restrict v1 ks) (restrict v2 ks) && sameH (dropNew (restrict v1 ks) k h1) (dropNew (restrict v2 ks) k h2))) with
    | false => rw [hc] at h; cases h
    | true =>
      rw [hc] at h
      simp only [cond_true, Option.some.injEq, Prod.mk.injEq] at h
      obtain ⟨rfl, rfl, rfl⟩ := h
      simp only [Bool.and_eq_true] at hc
      have g1 := sameX_eq hc.1
      have g2 := sameE_eq _ _ hc.2.1
      have g3 := sameH_eq _ _ hc.2.2
      refine ⟨⟨v1, h1, rfl, has_restrict _ _, dropNew_drops _ _ _⟩, v2, h2, by rw [g1], by rw [g2]; exact has_restrict _ _, by rw [g3]; exact dropNew_drops _ _ _⟩
  · cases h
def evM (P : Program) (call : Callee) (T : Tbl) (N : Nat) : Code → Option Nat → Env → Heap → Option (Exit × Env × Heap)
  | .skip, m, env, H => match m with
    | none => some (.normal, env, H)
    | some _ => none
  | .region id ops draw, m, env, H => match m with
    | none => (match evOps P call T ops ops.toList env H [] with
      | some (env', H', ts) => bif !draw || regOk ops ts.reverse then some (.normal, env', H') else none
      | none => none)
    | some _ => none
  | .seq a b, m, env, H => match m with
    | none => (match coinCode T a with
      | some (t, c, s) => mergeO (keysOf env) H.length (evM P call T N b none (coinEnv c s true H env) (coinHeap t true H)) (evM P call T N b none (coinEnv c s false H env) (coinHeap t false H))
      | none => (match evM P call T N a none env H with
        | some (.normal, env', H') => evM P call T N b none env' H'
        | r => r))
    | some l => (match findLabel a l with
      | some _ => (match evM P call T N a (some l) env H with
        | some (.normal, env', H') => evM P call T N b none env' H'
        | r => r)
      | none => evM P call T N b (some l) env H)
  | .cond c x y, m, env, H => match m with
    | none => (match opnd env c with
      | some (.v (.bool true)) => evM P call T N x none env H
      | some (.v (.bool false)) => evM P call T N y none env H
      | _ => none)
    | some _ => none
  | .block id c, m, env, H => match m with
    | none => (match evM P call T N c none env H with
      | some (.exit id', env', H') => if id' = id then some (.normal, env', H') else some (.exit id', env', H')
      | r => r)
    | some _ => none
  | .exit id, m, env, H => match m with
    | none => some (.exit id, env, H)
    | some _ => none
  | .ret, m, env, H => match m with
    | none => some (.ret, env, H)
    | some _ => none
  | .label l', m, env, H => match m with
    | none => some (.normal, env, H)
    | some l => bif l' == l then some (.normal, env, H) else none
  | .goto l, m, env, H => match m with
    | none => some (.goto l, env, H)
    | some _ => none
  | .loop c, m, env, H => match m with
    | none => evIter (fun e h => evM P call T N c none e h) N (prune [] env) H
    | some _ => none
  | .scope c, m, env, H => match m with
    | none => (match evM P call T N c none env H with
      | some (.goto l, env', H') => (match findLabel c l with
        | some _ => evJump (fun e h => evM P call T N c (some l) e h) l N (prune [] env') H'
        | none => none)
      | r => r)
    | some _ => none
  | _, _, _, _ => none
def evC (P : Program) (call : Callee) (T : Tbl) (N : Nat) (c : Code) (env : Env) (H : Heap) : Option (Exit × Env × Heap) := evM P call T N c none env H
def resB (T : Tbl) (env : Env) (H : Heap) : List ResultVar → Bool
  | [] => true
  | .tmp t :: r => resB T env H r
  | .cell a ty :: r => match env.lookup a with
    | some (.ptr b off) => match blkAt H b, T ty with
      | some blk, some ti => partB ti blk.cs off && resB T env H r
      | _, _ => false
    | _ => false
theorem resB_ok {T : Tbl} {env : Env} {H : Heap} : ∀ {rs : List ResultVar} {ds : List D} {c : Prop}, resD T env H rs = some (ds, c) → resB T env H rs = true → c
  | [], ds, c, h, hb => by simp only [resD] at h; obtain ⟨_, rfl⟩ := pair_inj h; trivial
  | .tmp t :: r, ds, c, h, hb => by
    simp only [resD] at h
    split at h
    · rename_i h2
      obtain ⟨_, rfl⟩ := pair_inj h
      exact resB_ok h2 (by simpa only [resB] using hb)
    · cases h
  | .cell a ty :: r, ds, c, h, hb => by
    simp only [resD] at h
    split at h
    · rename_i h1 h2
      split at h
      · rename_i h3 h4
        obtain ⟨_, rfl⟩ := pair_inj h
        simp only [resB, h1, h3, h4, Bool.and_eq_true] at hb
        exact ⟨partB_ok hb.1, resB_ok h2 hb.2⟩
      · cases h
    · cases h
def evRes (T : Tbl) (rs : List ResultVar) : Option (Exit × Env × Heap) → Option (D × Heap)
  | some (.normal, env, H) => match resD T env H rs with
    | some (ds, _) => bif resB T env H rs then some (retD ds, H) else none
    | none => none
  | some (.ret, env, H) => match resD T env H rs with
    | some (ds, _) => bif resB T env H rs then some (retD ds, H) else none
    | none => none
  | _ => none
def outF (H : Heap) (ds : List D) : Option (D × Heap) → Option (D × Heap × Tch)
  | some (d, X) => bif Nat.ble H.length X.length then
      some (d, un (reach H (namesD.namesA ds)) H (cut H.length d X), bif Nat.beq (cut H.length d X).length H.length then .rw (unchanged H (cut H.length d X) (reach H (namesD.namesA ds))) (changed H (cut H.length d X) (reach H (namesD.namesA ds)))
        else .fp (unchanged H (cut H.length d X) (reach H (namesD.namesA ds))) (changed H (cut H.length d X) (reach H (namesD.namesA ds))) H.length) else none
  | none => none
def evF (P : Program) (T : Tbl) (N : Nat) (base : Callee) : Nat → Callee
  | 0, _, _, _ => none
  | n + 1, f, ds, H => match base f ds H with
    | some r => some r
    | none => match P.funcs[f]? with
    | some fn => match fn.body with
      | some c => bif !(fn.name == "runtime.NumGoroutine") && (codeOk fn.ntmps c && decide (ds.length ≤ fn.ntmps)) then
          (bif namelessLB ds then
            (match evRes T fn.results.toList (evC P (evF P T N base n) T N c (envOf 0 ds) []) with
            | some (d, H1) => bif namelessB d then some (d, H, .no) else some (shD H.length (compact d H1).1, H ++ shH H.length (compact d H1).2, .mk H.length)
            | none => none)
          else outF H ds (evRes T fn.results.toList (evC P (evF P T N base n) T N c (envOf 0 ds) (mask (reach H (namesD.namesA ds)) H))))
        else none
      | none => none
    | none => none
section
variable {P : Program} {T : Tbl} (hT : TblOk P T) {nt N : Nat} {call : Callee}
def CallOk (P : Program) (call : Callee) : Prop := ∀ g ds H d H' (t : Tch), call g ds H = some (d, H', t) → ∀ K : D → Heap → Tch → Prop, K d H' t → VCall P g ds H K
theorem evOp_ok (hc : CallOk P call) {o : Oper} {env : Env} {H H' : Heap} {d : D} {t : Tch} (h : evOp P call T o env H = some (d, H', t)) {K : D → Heap → Tch → Prop} (hk : K d H' t) : vOp P T o env H K := by
  have rest : (match opP T env o.op with
    | some (d, _) => bif opPB T env o.op then some (d, H, .no) else none
    | none => match opH T env H o.op with
      | some out => bif opHB T env H o.op then some (out.d, out.H, out.touch) else none
      | none => none) = some (d, H', t) → (match opP T env o.op with
    | some (d, c) => c ∧ K d H .no
    | none => match opH T env H o.op with
      | some out => out.c ∧ K out.d out.H out.touch
      | none => False) := by
    intro h
    split at h
    · rename_i d' c' hp
      cases hb : opPB T env o.op with
      | false => simp [hb] at h
      | true =>
        simp only [hb, cond_true, Option.some.injEq, Prod.mk.injEq] at h
        obtain ⟨rfl, rfl, rfl⟩ := h
        exact ⟨opPB_ok hp hb, hk⟩
    · split at h
      · rename_i out ho
        cases hb : opHB T env H o.op with
        | false => simp [hb] at h
        | true =>
          simp only [hb, cond_true, Option.some.injEq, Prod.mk.injEq] at h
          obtain ⟨rfl, rfl, rfl⟩ := h
          exact ⟨opHB_ok ho hb, hk⟩
      · cases h
  unfold vOp
  split
  · rename_i f args ts hop
    simp only [evOp, hop] at h
    split at h
    · rename_i g k caps ds hf ha
      simp only [hf, ha]
      exact hc _ _ _ _ _ _ h K hk
    · cases h
  · rename_i r name args ts hop
    simp only [evOp, hop] at h
    split at h
    · rename_i t d ds hf ha
      split at h
      · rename_i g hm
        simp only [hf, ha, hm]
        exact hc _ _ _ _ _ _ h K hk
      · cases h
    · cases h
  · rename_i hne hne2
    unfold evOp at h
    split at h
    · rename_i hop
      exact absurd hop (hne _ _ _)
    · rename_i hop
      exact absurd hop (hne2 _ _ _ _)
    · exact rest h
theorem evOps_ok (hc : CallOk P call) {ops : Array Oper} : ∀ (l : List Oper) (env : Env) (H : Heap) (ts : List Tch) (env' : Env) (H' : Heap) (ts' : List Tch) (K : Env → Heap → List Tch → Prop),
    evOps P call T ops l env H ts = some (env', H', ts') → K env' H' ts' → vOps P T ops l env H ts K
  | [], env, H, ts, env', H', ts', K, h, hk => by
    simp only [evOps, Option.some.injEq, Prod.mk.injEq] at h
    obtain ⟨rfl, rfl, rfl⟩ := h
    exact hk
  | o :: rest, env, H, ts, env', H', ts', K, h, hk => by
    simp only [evOps] at h
    simp only [vOps]
    split at h
    · rename_i hg
      simp only [hg]
      split at h
      · rename_i d H1 t he
        refine evOp_ok hc he ?_; exact evOps_ok hc rest _ _ _ _ _ _ K h hk
      · cases h
    · rename_i j want hg
      split at h
      · cases h
      · rename_i s hs
        split at h
        · rename_i g hl
          simp only [hg, hs, hl]
          cases hgw : (g == want) with
          | true =>
            have e : g = want := by simpa using hgw
            subst e
            simp only [hgw, cond_true] at h
            refine ⟨fun _ => ?_, fun e => absurd e (by cases g <;> simp)⟩
            split at h
            · rename_i d H1 t he
              refine evOp_ok hc he ?_; exact evOps_ok hc rest _ _ _ _ _ _ K h hk
            · cases h
          | false =>
            simp only [hgw, cond_false] at h
            exact ⟨fun e => absurd e (by simpa using hgw), fun _ => evOps_ok hc rest _ _ _ _ _ _ K h hk⟩
        · rename_i us hl
          simp only [hg, hs, hl]
          split at h
          · rename_i hu
            exact ⟨hu, evOps_ok hc rest _ _ _ _ _ _ K h hk⟩
          · cases h
        · cases h
theorem evIter_ok {c : Code} {body : Env → Heap → Option (Exit × Env × Heap)} (hb : ∀ env H e env' H', body env H = some (e, env', H') → ∀ Q : Exit → Env → Heap → Prop, Q e env' H' → DW P nt c Q env H) {n : Nat} {env : Env} {H : Heap} {e : Exit} {env' : Env} {H' : Heap}
    (h : evIter body n (prune [] env) H = some (e, env', H')) {Q : Exit → Env → Heap → Prop} (hq : Q e env' H') : DW P nt (.loop c) Q env H := by
  refine DW.loop (fun x : Nat × Env × Heap => evIter body x.1 x.2.1 x.2.2 = some (e, env', H')) (fun x => x.2.1) (fun x => x.2.2) (fun x => x.1) (n, prune [] env, H) h (has_prune env) rfl ?_
  rintro ⟨m, en, hp⟩ hx
  simp only at hx ⊢
  cases m with
  | zero => simp [evIter] at hx
  | succ m =>
    simp only [evIter] at hx
    split at hx
    · rename_i env1 H1 h1
      exact hb _ _ _ _ _ h1 _ ⟨(m, prune [] env1, H1), by simp, hx, has_prune env1, rfl⟩
    · rename_i hne
      cases e with
      | normal => exact absurd hx (fun h => hne _ _ h)
      | _ => exact hb _ _ _ _ _ hx _ hq
theorem DW.given {c : Code} {Q : Exit → Env → Heap → Prop} {env : Env} {H : Heap} (h : DW P nt c (fun e env' H' => ∃ env2 H2, Has env' env2 ∧ Drops H' H2 ∧ Q e env2 H2) env H) : DW P nt c Q env H := by
  intro ρ S w a hi
  refine wp_mono (h ρ S w a hi) fun e a' w' ⟨env', H', ρ', S', ⟨env2, H2, h1, h2, hq⟩, h3, h4⟩ => ?_
  exact ⟨env2, H2, ρ', S', hq, ⟨h3.st.drops h2, fun t d ht => (h3.env t d (h1.sub t d ht)).mono h2.le _ _, h3.size, h3.defers⟩, h4.trans h2.le⟩
include hT
mutual
theorem evM_ok (hm : P.follows .mixedOrders = true) (hc : CallOk P call) : ∀ (c : Code) (env : Env) (H : Heap) (e : Exit) (env' : Env) (H' : Heap), codeOk nt c = true → evM P call T N c none env H = some (e, env', H') →
    ∀ Q : Exit → Env → Heap → Prop, Q e env' H' → DW P nt c Q env H
  | .skip, env, H, e, env', H', ho, h, Q, hq => by
    simp only [evM, Option.some.injEq, Prod.mk.injEq] at h
    obtain ⟨rfl, rfl, rfl⟩ := h
    exact vcg_sound hT hm .skip Q _ _ ho hq
  | .region id ops draw, env, H, e, env', H', ho, h, Q, hq => by
    simp only [evM] at h
    split at h
    · rename_i env1 H1 ts h1
      cases hb : (!draw || regOk ops ts.reverse) with
      | false => simp [hb] at h
      | true =>
        simp only [hb, cond_true, Option.some.injEq, Prod.mk.injEq] at h
        obtain ⟨rfl, rfl, rfl⟩ := h
        refine vcg_sound hT hm (.region id ops draw) Q _ _ ho ?_
        exact evOps_ok hc _ _ _ _ _ _ _ _ h1 ⟨fun hd => by simpa [hd] using hb, hq⟩
    · cases h
  | .seq a b, env, H, e, env', H', ho, h, Q, hq => by
    simp only [codeOk, Bool.and_eq_true] at ho
    simp only [evM] at h
    intro ρ S w ac hi
    cases hcoin : coinCode T a with
    | some p =>
      obtain ⟨t, c, s⟩ := p
      rw [hcoin] at h
      simp only at h
      obtain ⟨⟨v1, h1, e1, g1, d1⟩, v2, h2, e2, g2, d2⟩ := mergeO_some h
      have hreg : ∃ id ops, a = .region id ops true ∧ coinOf T ops = some (t, c, s) := by
        unfold coinCode at hcoin
        split at hcoin
        · exact ⟨_, _, rfl, hcoin⟩
        · cases hcoin
      obtain ⟨id, ops, rfl, hco⟩ := hreg
      have side : ∀ v : Bool, DW P nt b Q (coinEnv c s v H env) (coinHeap t v H) := by
        intro v
        refine DW.given (c := b) (Q := Q) ?_
        cases v with
        | true => exact evM_ok hm hc b _ _ _ _ _ ho.2 e1 _ ⟨env', H', g1, d1, hq⟩
        | false => exact evM_ok hm hc b _ _ _ _ _ ho.2 e2 _ ⟨env', H', g2, d2, hq⟩
      refine wp_seq (wp_mono (coin_sound hT hm hco ho.1 (Q := fun e1 en1 hh1 => e1 = .normal ∧ DW P nt b Q en1 hh1) (fun v => ⟨rfl, side v⟩) ρ S w ac hi) ?_)
      rintro e1 a1 w1 ⟨en, hh, ρ1, S1, ⟨rfl, hd⟩, hi1, hle⟩
      refine wp_mono (hd ρ1 S1 w1 a1 hi1) ?_
      rintro e2 a2 w2 ⟨en2, hh2, ρ2, S2, h4, h5, h6⟩
      exact ⟨en2, hh2, ρ2, S2, h4, h5, hle.trans h6⟩
    | none =>
    rw [hcoin] at h
    simp only at h
    split at h
    · rename_i env1 H1 h1
      refine wp_seq (wp_mono (evM_ok hm hc a env H _ _ _ ho.1 h1 (fun e1 en1 hh1 => e1 = .normal ∧ DW P nt b Q en1 hh1) ⟨rfl, evM_ok hm hc b env1 H1 _ _ _ ho.2 h Q hq⟩ ρ S w ac hi) ?_)
      rintro e1 a1 w1 ⟨en, hh, ρ1, S1, ⟨rfl, hd⟩, hi1, hle⟩
      refine wp_mono (hd ρ1 S1 w1 a1 hi1) ?_
      rintro e2 a2 w2 ⟨en2, hh2, ρ2, S2, h4, h5, h6⟩
      exact ⟨en2, hh2, ρ2, S2, h4, h5, hle.trans h6⟩
    · rename_i hne
      refine wp_seq (wp_mono (evM_ok hm hc a env H _ _ _ ho.1 h (fun e1 en1 hh1 => e1 ≠ .normal ∧ Q e1 en1 hh1) ⟨fun he => by subst he; exact hne _ _ h, hq⟩ ρ S w ac hi) ?_)
      rintro e1 a1 w1 ⟨en, hh, ρ1, S1, ⟨hn, hd⟩, hi1, hle⟩
      cases e1 with
      | normal => exact absurd rfl hn
      | _ => exact ⟨en, hh, ρ1, S1, hd, hi1, hle⟩
  | .cond c x y, env, H, e, env', H', ho, h, Q, hq => by
    simp only [codeOk, Bool.and_eq_true] at ho
    simp only [evM] at h
    intro ρ S w ac hi
    split at h
    · rename_i hb
      have hv := get_rd hi.st.glob hi.env c _ hb
      simp only [Rd] at hv
      exact wp_cond hv (evM_ok hm hc x env H _ _ _ ho.1 h Q hq ρ S w ac hi)
    · rename_i hb
      have hv := get_rd hi.st.glob hi.env c _ hb
      simp only [Rd] at hv
      exact wp_cond hv (evM_ok hm hc y env H _ _ _ ho.2 h Q hq ρ S w ac hi)
    · cases h
  | .block id c, env, H, e, env', H', ho, h, Q, hq => by
    simp only [codeOk] at ho
    simp only [evM] at h
    intro ρ S w ac hi
    split at h
    · rename_i id' env1 H1 h1
      refine wp_block (wp_mono (evM_ok hm hc c env H _ _ _ ho h1 (fun e1 en1 hh1 => e1 = .exit id' ∧ en1 = env1 ∧ hh1 = H1) ⟨rfl, rfl, rfl⟩ ρ S w ac hi) ?_)
      rintro e1 a1 w1 ⟨en, hh, ρ1, S1, ⟨rfl, rfl, rfl⟩, hi1, hle⟩
      simp only [Exit.inBlock]
      split at h
      · rename_i he
        simp only [Option.some.injEq, Prod.mk.injEq] at h
        obtain ⟨rfl, rfl, rfl⟩ := h
        rw [if_pos he]; exact ⟨_, _, ρ1, S1, hq, hi1, hle⟩
      · rename_i he
        simp only [Option.some.injEq, Prod.mk.injEq] at h
        obtain ⟨rfl, rfl, rfl⟩ := h
        rw [if_neg he]; exact ⟨_, _, ρ1, S1, hq, hi1, hle⟩
    · rename_i hne
      refine wp_block (wp_mono (evM_ok hm hc c env H _ _ _ ho h (fun e1 en1 hh1 => e1 = e ∧ en1 = env' ∧ hh1 = H') ⟨rfl, rfl, rfl⟩ ρ S w ac hi) ?_)
      rintro e1 a1 w1 ⟨en, hh, ρ1, S1, ⟨rfl, rfl, rfl⟩, hi1, hle⟩
      cases e1 with
      | exit id' => exact absurd h (fun h => hne _ _ _ h)
      | _ => exact ⟨_, _, ρ1, S1, hq, hi1, hle⟩
  | .exit id, env, H, e, env', H', ho, h, Q, hq => by
    simp only [evM, Option.some.injEq, Prod.mk.injEq] at h
    obtain ⟨rfl, rfl, rfl⟩ := h
    exact vcg_sound hT hm (.exit id) Q _ _ ho hq
  | .ret, env, H, e, env', H', ho, h, Q, hq => by
    simp only [evM, Option.some.injEq, Prod.mk.injEq] at h
    obtain ⟨rfl, rfl, rfl⟩ := h
    exact vcg_sound hT hm .ret Q _ _ ho hq
  | .label l, env, H, e, env', H', ho, h, Q, hq => by
    simp only [evM, Option.some.injEq, Prod.mk.injEq] at h
    obtain ⟨rfl, rfl, rfl⟩ := h
    exact vcg_sound hT hm (.label l) Q _ _ ho hq
  | .goto l, env, H, e, env', H', ho, h, Q, hq => by
    simp only [evM, Option.some.injEq, Prod.mk.injEq] at h
    obtain ⟨rfl, rfl, rfl⟩ := h
    exact vcg_sound hT hm (.goto l) Q _ _ ho hq
  | .loop c, env, H, e, env', H', ho, h, Q, hq => by
    simp only [codeOk] at ho
    simp only [evM] at h
    exact evIter_ok (fun env H e env' H' hb Q hq => evM_ok hm hc c env H e env' H' ho hb Q hq) h hq
  | .refuse .., env, H, e, env', H', ho, h, Q, hq => by simp [evM] at h
  | .scope c, env, H, e, env', H', ho, h, Q, hq => by
    simp only [codeOk] at ho
    simp only [evM] at h
    split at h
    · rename_i l env1 H1 h1
      split at h
      · rename_i rest hf
        refine DW.scopeJump (fun x : Nat × Env × Heap => evJump (fun e h => evM P call T N c (some l) e h) l x.1 x.2.1 x.2.2 = some (e, env', H')) (fun x => x.2.1) (fun x => x.2.2) (fun x => x.1) hf
          (evM_ok hm hc c env H _ _ _ ho h1 _ ⟨rfl, (N, prune [] env1, H1), h, has_prune env1, rfl⟩) ?_
        rintro ⟨m, en, hp⟩ hx
        simp only at hx ⊢
        cases m with
        | zero => simp [evJump] at hx
        | succ m =>
          simp only [evJump] at hx
          split at hx
          · rename_i l' env2 H2 h2
            cases hb : Nat.beq l' l with
            | false => rw [hb] at hx; cases hx
            | true =>
              rw [hb] at hx
              exact evL_ok hm hc c l rest hf _ _ _ _ _ ho h2 _ ⟨Nat.eq_of_beq_eq_true hb, (m, prune [] env2, H2), by simp, hx, has_prune env2, rfl⟩
          · rename_i hne
            cases e with
            | goto l' => exact absurd hx (fun h => hne _ _ _ h)
            | _ => exact evL_ok hm hc c l rest hf _ _ _ _ _ ho hx _ hq
      · cases h
    · rename_i hne
      intro ρ S w ac hi
      refine wp_scope_straight (wp_mono (evM_ok hm hc c env H _ _ _ ho h (fun e1 en1 hh1 => e1 = e ∧ en1 = env' ∧ hh1 = H') ⟨rfl, rfl, rfl⟩ ρ S w ac hi) ?_)
      rintro e1 a1 w1 ⟨en, hh, ρ1, S1, ⟨rfl, rfl, rfl⟩, hi1, hle⟩
      cases e1 with
      | goto l => exact absurd h (fun h => hne _ _ _ h)
      | _ => exact ⟨_, _, ρ1, S1, hq, hi1, hle⟩
  | .rangeFunc .., env, H, e, env', H', ho, h, Q, hq => by simp [evM] at h
theorem evL_ok (hm : P.follows .mixedOrders = true) (hc : CallOk P call) : ∀ (c : Code) (l : Nat) (rest : Code), findLabel c l = some rest → ∀ (env : Env) (H : Heap) (e : Exit) (env' : Env) (H' : Heap), codeOk nt c = true → evM P call T N c (some l) env H = some (e, env', H') →
    ∀ Q : Exit → Env → Heap → Prop, Q e env' H' → DW P nt rest Q env H
  | .seq a b, l, rest, hf, env, H, e, env', H', ho, h, Q, hq => by
    simp only [codeOk, Bool.and_eq_true] at ho
    simp only [evM] at h
    simp only [findLabel] at hf
    split at h
    · rename_i ra hra
      rw [hra] at hf
      injection hf with hf; subst hf
      intro ρ S w ac hi
      split at h
      · rename_i env1 H1 h1
        refine wp_seq (wp_mono (evL_ok hm hc a l ra hra env H _ _ _ ho.1 h1 (fun e1 en1 hh1 => e1 = .normal ∧ DW P nt b Q en1 hh1) ⟨rfl, evM_ok hm hc b env1 H1 _ _ _ ho.2 h Q hq⟩ ρ S w ac hi) ?_)
        rintro e1 a1 w1 ⟨en, hh, ρ1, S1, ⟨rfl, hd⟩, hi1, hle⟩
        refine wp_mono (hd ρ1 S1 w1 a1 hi1) ?_
        rintro e2 a2 w2 ⟨en2, hh2, ρ2, S2, h4, h5, h6⟩
        exact ⟨en2, hh2, ρ2, S2, h4, h5, hle.trans h6⟩
      · rename_i hne
        refine wp_seq (wp_mono (evL_ok hm hc a l ra hra env H _ _ _ ho.1 h (fun e1 en1 hh1 => e1 ≠ .normal ∧ Q e1 en1 hh1) ⟨fun he => by subst he; exact hne _ _ h, hq⟩ ρ S w ac hi) ?_)
        rintro e1 a1 w1 ⟨en, hh, ρ1, S1, ⟨hn, hd⟩, hi1, hle⟩
        cases e1 with
        | normal => exact absurd rfl hn
        | _ => exact ⟨en, hh, ρ1, S1, hd, hi1, hle⟩
    · rename_i hra
      rw [hra] at hf
      exact evL_ok hm hc b l rest hf env H _ _ _ ho.2 h Q hq
  | .label l', l, rest, hf, env, H, e, env', H', ho, h, Q, hq => by
    simp only [findLabel] at hf
    simp only [evM] at h
    cases hb : (l' == l) with
    | false => rw [hb] at h; cases h
    | true =>
      rw [hb] at h hf
      simp only [if_true, Option.some.injEq] at hf
      subst hf
      simp only [cond_true, Option.some.injEq, Prod.mk.injEq] at h
      obtain ⟨rfl, rfl, rfl⟩ := h
      exact vcg_sound hT hm .skip Q _ _ rfl hq
  | .skip, l, rest, hf, _, _, _, _, _, _, _, _, _ => by simp [findLabel] at hf
  | .region .., l, rest, hf, _, _, _, _, _, _, _, _, _ => by simp [findLabel] at hf
  | .cond .., l, rest, hf, _, _, _, _, _, _, _, _, _ => by simp [findLabel] at hf
  | .block .., l, rest, hf, _, _, _, _, _, _, _, _, _ => by simp [findLabel] at hf
  | .exit .., l, rest, hf, _, _, _, _, _, _, _, _, _ => by simp [findLabel] at hf
  | .ret, l, rest, hf, _, _, _, _, _, _, _, _, _ => by simp [findLabel] at hf
  | .goto .., l, rest, hf, _, _, _, _, _, _, _, _, _ => by simp [findLabel] at hf
  | .loop .., l, rest, hf, _, _, _, _, _, _, _, _, _ => by simp [findLabel] at hf
  | .scope .., l, rest, hf, _, _, _, _, _, _, _, _, _ => by simp [findLabel] at hf
  | .refuse .., l, rest, hf, _, _, _, _, _, _, _, _, _ => by simp [findLabel] at hf
  | .rangeFunc .., l, rest, hf, _, _, _, _, _, _, _, _, _ => by simp [findLabel] at hf
end
theorem evC_ok (hm : P.follows .mixedOrders = true) (hc : CallOk P call) : ∀ (c : Code) (env : Env) (H : Heap) (e : Exit) (env' : Env) (H' : Heap), codeOk nt c = true → evC P call T N c env H = some (e, env', H') →
    ∀ Q : Exit → Env → Heap → Prop, Q e env' H' → DW P nt c Q env H := evM_ok hT hm hc
omit hT
include hT in
theorem evF_ok (hm : P.follows .mixedOrders = true) {base : Callee} (hbase : CallOk P base) : ∀ n, CallOk P (evF P T N base n)
  | 0, g, ds, H, d, H', t, h, K, hk => by simp [evF] at h
  | n + 1, g, ds, H, d, H', t, h, K, hk => by
    simp only [evF] at h
    split at h
    · rename_i r hr
      injection h with h; subst h
      exact hbase _ _ _ _ _ _ hr K hk
    split at h
    · rename_i fn hf
      split at h
      · rename_i c hb
        cases hck : (!(fn.name == "runtime.NumGoroutine") && (codeOk fn.ntmps c && decide (ds.length ≤ fn.ntmps))) with
        | false => simp [hck] at h
        | true =>
          simp only [hck, cond_true] at h
          simp only [Bool.and_eq_true, Bool.not_eq_true', decide_eq_true_eq] at hck
          obtain ⟨hname, hok, hlen⟩ := hck
          have main : ∀ (ds : List D) (H0 : Heap) (d1 : D) (H1 : Heap), ds.length ≤ fn.ntmps → evRes T fn.results.toList (evC P (evF P T N base n) T N c (envOf 0 ds) H0) = some (d1, H1) → ∀ (d2 : D) (H2 : Heap), Fin ds H0 d1 H1 d2 H2 → CallJ P g ds H0 d2 H2 := by
            intro ds H0 d1 H1 hlen he d2 H2 hfin
            refine callJ_of_dw hT hf hb hname hlen ?_
            cases hev : evC P (evF P T N base n) T N c (envOf 0 ds) H0 with
            | none => simp [hev, evRes] at he
            | some r =>
              obtain ⟨e, env', H'⟩ := r
              refine evC_ok hT hm (evF_ok hm hbase n) c _ _ _ _ _ hok hev _ ?_
              rw [hev] at he
              have fin : (match resD T env' H' fn.results.toList with
                  | some (ds, _) => bif resB T env' H' fn.results.toList then some (retD ds, H') else none
                  | none => none) = some (d1, H1) → (match resD T env' H' fn.results.toList with | some (ds', c) => c ∧ Fin ds H0 (retD ds') H' d2 H2 | none => False) := by
                intro h
                split at h
                · rename_i ds' c' hr
                  cases hrb : resB T env' H' fn.results.toList with
                  | false => simp [hrb] at h
                  | true =>
                    simp only [hrb, cond_true, Option.some.injEq, Prod.mk.injEq] at h
                    obtain ⟨rfl, rfl⟩ := h
                    exact ⟨resB_ok hr hrb, hfin⟩
                · cases h
              cases e with
              | normal => exact fin he
              | ret => exact fin he
              | _ => simp [evRes] at he
          cases hn : namelessLB ds with
          | true =>
            simp only [hn, cond_true] at h
            split at h
            · rename_i d1 H1 he
              cases hnd : namelessB d1 with
              | true =>
                simp only [hnd, cond_true, Option.some.injEq, Prod.mk.injEq] at h
                obtain ⟨rfl, rfl, rfl⟩ := h
                exact .pure _ (PureJ.of_nil (namelessLB_ok _ hn) (namelessB_ok _ hnd) (main ds [] _ _ hlen he _ _ (fin_drop (namelessB_ok _ hnd)))) hk
              | false =>
                simp only [hnd, cond_false, Option.some.injEq, Prod.mk.injEq] at h
                obtain ⟨rfl, rfl, rfl⟩ := h
                exact .makes _ _ (fun H1 e => by rw [← e]; exact (main ds [] _ _ hlen he _ _ fin_compact).frame (namelessLB_ok _ hn) H1) hk
            · cases h
          | false =>
            simp only [hn, cond_false] at h
            unfold outF at h
            split at h
            · rename_i d1 X he
              cases hX : Nat.ble H.length X.length with
              | false => rw [hX] at h; cases h
              | true =>
                rw [hX] at h
                simp only [cond_true, Option.some.injEq, Prod.mk.injEq] at h
                obtain ⟨rfl, rfl, rfl⟩ := h
                have hX := cut_length (d := d1) (Nat.le_of_ble_eq_true hX)
                have hsp := un_split (H := H) (X := cut H.length d1 X) (σ := reach H (namesD.namesA ds))
                have hft : Foot H (cut H.length d1 X) (reach H (namesD.namesA ds)) (unchanged H (cut H.length d1 X) (reach H (namesD.namesA ds))) (changed H (cut H.length d1 X) (reach H (namesD.namesA ds))) := ⟨hsp.1, hsp.2.1, hsp.2.2.1, hsp.2.2.2⟩
                have hcall : ∀ H1 : Heap, (∀ b, b ∈ reach H (namesD.namesA ds) → H1[b]? = H[b]?) → H1.length = H.length → CallJ P g ds H1 d1 (un (reach H (namesD.namesA ds)) H1 (cut H.length d1 X)) := fun H1 e1 e2 => CallJ.mask (by
                  rw [mask_congr e1 e2]
                  exact main ds _ _ _ hlen he _ _ (by rw [← mask_length (reach H (namesD.namesA ds)) H]; exact fin_cut))
                cases hb : Nat.beq (cut H.length d1 X).length H.length with
                | true =>
                  rw [hb] at hk
                  exact .sames _ _ _ _ _ (Nat.eq_of_beq_eq_true hb) hft hcall hk
                | false =>
                  rw [hb] at hk
                  exact .parts _ _ _ _ _ hX hft hcall hk
            · cases h
      · cases h
    · cases h
include hT in
theorem evF_main (hm : P.follows .mixedOrders = true) {base : Callee} (hbase : CallOk P base) {n : Nat} {g : FuncId} {fn : Func} {c : Code} (hf : P.funcs[g]? = some fn) (hb : fn.body = some c) (hname : (fn.name == "runtime.NumGoroutine") = false) (hok : codeOk fn.ntmps c = true) :
    ∀ (ds : List D) (H0 : Heap) (d1 : D) (H1 : Heap), ds.length ≤ fn.ntmps → evRes T fn.results.toList (evC P (evF P T N base n) T N c (envOf 0 ds) H0) = some (d1, H1) → ∀ (d2 : D) (H2 : Heap), Fin ds H0 d1 H1 d2 H2 → CallJ P g ds H0 d2 H2 := by
  intro ds H0 d1 H1 hlen he d2 H2 hfin
  refine callJ_of_dw hT hf hb hname hlen ?_
  cases hev : evC P (evF P T N base n) T N c (envOf 0 ds) H0 with
  | none => simp [hev, evRes] at he
  | some r =>
    obtain ⟨e, env', H'⟩ := r
    refine evC_ok hT hm (evF_ok hT hm hbase n) c _ _ _ _ _ hok hev _ ?_
    rw [hev] at he
    have fin : (match resD T env' H' fn.results.toList with
        | some (ds, _) => bif resB T env' H' fn.results.toList then some (retD ds, H') else none
        | none => none) = some (d1, H1) → (match resD T env' H' fn.results.toList with | some (ds', c) => c ∧ Fin ds H0 (retD ds') H' d2 H2 | none => False) := by
      intro h
      split at h
      · rename_i ds' c' hr
        cases hrb : resB T env' H' fn.results.toList with
        | false => simp [hrb] at h
        | true =>
          simp only [hrb, cond_true, Option.some.injEq, Prod.mk.injEq] at h
          obtain ⟨rfl, rfl⟩ := h
          exact ⟨resB_ok hr hrb, hfin⟩
      · cases h
    cases e with
    | normal => exact fin he
    | ret => exact fin he
    | _ => simp [evRes] at he
def evTop (P : Program) (T : Tbl) (N : Nat) (base : Callee) (n : Nat) (fn : Func) (c : Code) (ds : List D) : Option D :=
  bif !(fn.name == "runtime.NumGoroutine") && (codeOk fn.ntmps c && (decide (ds.length ≤ fn.ntmps) && namelessLB ds)) then
    (match evRes T fn.results.toList (evC P (evF P T N base n) T N c (envOf 0 ds) []) with
    | some (d, H1) => bif namelessB d then some d else none
    | none => none)
  else none
include hT in
theorem pure_of_ev (hm : P.follows .mixedOrders = true) {base : Callee} (hbase : CallOk P base) {n : Nat} {f : FuncId} {fn : Func} {c : Code} {ds : List D} {d : D} (hf : P.funcs[f]? = some fn) (hb : fn.body = some c) (h : evTop P T N base n fn c ds = some d) : PureJ P f ds d := by
  unfold evTop at h
  cases hck : (!(fn.name == "runtime.NumGoroutine") && (codeOk fn.ntmps c && (decide (ds.length ≤ fn.ntmps) && namelessLB ds))) with
  | false => simp [hck] at h
  | true =>
    simp only [hck, cond_true] at h
    simp only [Bool.and_eq_true, Bool.not_eq_true', decide_eq_true_eq] at hck
    obtain ⟨hname, hok, hlen, hn⟩ := hck
    split at h
    · rename_i d1 H1 he
      cases hnd : namelessB d1 with
      | false => rw [hnd] at h; cases h
      | true =>
        rw [hnd] at h
        injection h with h; subst h
        exact PureJ.of_nil (namelessLB_ok _ hn) (namelessB_ok _ hnd) (evF_main hT hm hbase hf hb hname hok ds [] _ _ hlen he _ _ (fin_drop (namelessB_ok _ hnd)))
    · cases h
include hT in
end
end Go.VD
end
section
namespace Go.VD
set_option linter.unusedVariables false
set_option linter.unusedSimpArgs false
abbrev CallO := FuncId → List D → Heap → (D → Heap → Tch → Prop) → Option Prop
def CallOK (P : Program) (call : CallO) : Prop := ∀ g ds H K p, call g ds H K = some p → p → VCall P g ds H K
def pcond (b : Bool) (X Y : Prop) : Prop := match b with
  | true => X
  | false => Y
theorem pcond_true (X Y : Prop) : pcond true X Y = X := rfl
theorem pcond_false (X Y : Prop) : pcond false X Y = Y := rfl
def xOp (P : Program) (call : CallO) (T : Tbl) (o : Oper) (env : Env) (H : Heap) (K : D → Heap → Tch → Prop) : Prop :=
  match o.op with
  | .call { callee := .value f, args, argTypes } => match opnd env f, getAll env args.toList with
    | some (.fn g k caps), some ds => match call g (argsOf k caps ds) H K with
      | some p => p
      | none => False
    | _, _ => False
  | .call { callee := .invoke r name, args, argTypes } => match opnd env r, getAll env args.toList with
    | some (.ifc t d), some ds => match methOf P t name with
      | some g => match call g (d :: ds) H K with
        | some p => p
        | none => False
      | none => False
    | _, _ => False
  | .next it true => match opnd env it with
    | some (.ptr b 0) => match iterAt H b with
      | some (s, n) => pcond (decide (n.toNat < s.size)) (K (nextD s n true) (H.set b (itBlk s (nextN s n true))) (.wr b)) (K (nextD s n false) (H.set b (itBlk s (nextN s n false))) (.wr b))
      | none => False
    | _ => False
  | op => match opP T env op with
    | some (d, c) => c ∧ K d H .no
    | none => match opH T env H op with
      | some out => out.c ∧ K out.d out.H out.touch
      | none => False
def xOps (P : Program) (call : CallO) (T : Tbl) (ops : Array Oper) : List Oper → Env → Heap → List Tch → (Env → Heap → List Tch → Prop) → Prop
  | [], env, H, ts, K => K env H ts
  | o :: rest, env, H, ts, K =>
    match o.guard with
    | none => xOp P call T o env H fun d H' t => xOps P call T ops rest (bindD o.dst d env) H' (t :: ts) K
    | some (j, want) => match gslot ops j with
      | none => False
      | some s => match env.lookup s with
        | some (.v (.bool g)) => match want with
          | true => pcond g (xOp P call T o ((s, .v (.bool true)) :: env) H fun d H' t => xOps P call T ops rest (bindD o.dst d ((s, .v (.bool true)) :: env)) H' (t :: ts) K)
              (xOps P call T ops rest (bindD o.dst (.v undef) ((s, .v (.bool false)) :: env)) H (.no :: ts) K)
          | false => pcond g (xOps P call T ops rest (bindD o.dst (.v undef) ((s, .v (.bool true)) :: env)) H (.no :: ts) K)
              (xOp P call T o ((s, .v (.bool false)) :: env) H fun d H' t => xOps P call T ops rest (bindD o.dst d ((s, .v (.bool false)) :: env)) H' (t :: ts) K)
        | some (.v (.tuple us)) => us.toList = [] ∧ xOps P call T ops rest (bindD o.dst (.v undef) env) H (.no :: ts) K
        | _ => False
abbrev LoopO := Env → Heap → (Exit → Env → Heap → Prop) → Prop
def firstReg : Code → Nat
  | .region id _ _ => id
  | .seq a _ => firstReg a
  | .cond _ a _ => firstReg a
  | .block _ c => firstReg c
  | .loop c => firstReg c
  | .scope c => firstReg c
  | _ => 0
def xLoop (body : (Exit → Env → Heap → Prop) → Env → Heap → Prop) : Nat → (Exit → Env → Heap → Prop) → Env → Heap → Prop
  | 0, _, _, _ => False
  | n + 1, Q, env, H => body (fun e env' H' => match e with
    | .normal => xLoop body n Q (prune [] env') H'
    | e => Q e env' H') env H
def scopeQ (Q : Exit → Env → Heap → Prop) : Exit → Env → Heap → Prop
  | .goto _, _, _ => False
  | e, env, H => Q e env H
def setsC : Code → List Nat
  | .region _ ops _ => ops.toList.filterMap fun o => o.dst
  | .seq a b => setsC a ++ setsC b
  | .cond _ a b => setsC a ++ setsC b
  | .block _ c => setsC c
  | .loop c => setsC c
  | .scope c => setsC c
  | _ => []
def readsC : Code → List Nat
  | .region _ ops _ => ops.toList.flatMap fun o => opSlots o.op
  | .seq a b => readsC a ++ readsC b
  | .cond c a b => (match c with | .tmp t => [t] | _ => []) ++ (readsC a ++ readsC b)
  | .block _ c => readsC c
  | .loop c => readsC c
  | .scope c => readsC c
  | _ => []
def plainD : D → Bool
  | .agg _ => false
  | .tup _ => false
  | .fn _ _ _ => false
  | _ => true
def joinEnv (ss rs : List Nat) (env : Env) : Env := (prune [] env).filter fun p => !ss.contains p.1 && (plainD p.2 || rs.contains p.1)
def dedupN : List Nat → List Nat
  | [] => []
  | x :: r => bif r.contains x then dedupN r else x :: dedupN r
def joinVars (ss rs : List Nat) : List Nat := dedupN (ss.filter fun t => rs.contains t)
def joinB (K : Bool → Prop) : Option D → Prop
  | some (.v (.bool x)) => K x
  | _ => False
def joinI (K : Int → Prop) : Option D → Prop
  | some (.v (.int .i64 x)) => K x
  | _ => False
theorem joinB_some {K : Bool → Prop} {o : Option D} (h : joinB K o) : ∃ x, o = some (.v (.bool x)) ∧ K x := by
  unfold joinB at h
  split at h
  · exact ⟨_, rfl, h⟩
  · exact h.elim
theorem joinI_some {K : Int → Prop} {o : Option D} (h : joinI K o) : ∃ x, o = some (.v (.int .i64 x)) ∧ K x := by
  unfold joinI at h
  split at h
  · exact ⟨_, rfl, h⟩
  · exact h.elim
def xJoin (va : (Exit → Env → Heap → Prop) → Prop) (vb : Env → Heap → Prop) (isInt : Bool) (ts : List Nat) (JE : Env) (Q : Exit → Env → Heap → Prop) (H : Heap) : Prop :=
  match ts with
  | [] => ∀ K : Prop, (vb JE H → K) → va (thenQ (fun env' H' => (Has env' JE ∧ H' = H) ∧ K) Q)
  | [t] => match isInt with
    | false => ∀ K : Bool → Prop, (∀ x : Bool, vb ((t, .v (.bool x)) :: JE) H → K x) → va (thenQ (fun env' H' => (Has env' JE ∧ H' = H) ∧ joinB K (env'.lookup t)) Q)
    | true => ∀ K : Int → Prop, (∀ x : Int, vb ((t, .v (.int .i64 x)) :: JE) H → K x) → va (thenQ (fun env' H' => (Has env' JE ∧ H' = H) ∧ joinI K (env'.lookup t)) Q)
  | _ => False
theorem xJoin_use {va : (Exit → Env → Heap → Prop) → Prop} {vb : Env → Heap → Prop} {isInt : Bool} {ts : List Nat} {JE : Env} {Q : Exit → Env → Heap → Prop} {H : Heap} (h : xJoin va vb isInt ts JE Q H) :
    ∃ R : Env → Heap → Prop, va (thenQ R Q) ∧ ∀ env' H', R env' H' → H' = H ∧ ∃ env2, Has env' env2 ∧ vb env2 H := by
  unfold xJoin at h
  split at h
  · exact ⟨_, h _ id, fun env' H' ⟨⟨h1, h2⟩, h3⟩ => ⟨h2, JE, h1, h3⟩⟩
  · rename_i t
    split at h
    · refine ⟨_, h _ (fun x hx => hx), fun env' H' ⟨⟨h1, h2⟩, h3⟩ => ?_⟩
      obtain ⟨x, hx, h3⟩ := joinB_some h3
      exact ⟨h2, (t, .v (.bool x)) :: JE, show _ ∧ _ from ⟨hx, h1⟩, h3⟩
    · refine ⟨_, h _ (fun x hx => hx), fun env' H' ⟨⟨h1, h2⟩, h3⟩ => ?_⟩
      obtain ⟨x, hx, h3⟩ := joinI_some h3
      exact ⟨h2, (t, .v (.int .i64 x)) :: JE, show _ ∧ _ from ⟨hx, h1⟩, h3⟩
  · exact h.elim
def vcx (P : Program) (call : CallO) (lp : Nat → Option LoopO) (T : Tbl) (N : Nat) : Code → (Exit → Env → Heap → Prop) → Env → Heap → Prop
  | .skip, Q, env, H => Q .normal env H
  | .region id ops draw, Q, env, H => match coinCode T (.region id ops draw) with
    | some (t, c, s) => Q .normal (coinEnv c s true H env) (coinHeap t true H) ∧ Q .normal (coinEnv c s false H env) (coinHeap t false H)
    | none => xOps P call T ops ops.toList env H [] fun env' H' ts => pcond draw (regOk ops ts.reverse = true ∧ Q .normal env' H') (Q .normal env' H')
  | .seq a b, Q, env, H => match lp (1000000 + firstReg b) with
    | none => match lp (2000000 + firstReg b) with
      | none => vcx P call lp T N a (thenQ (fun env' H' => vcx P call lp T N b Q env' H') Q) env H
      | some _ => xJoin (fun Q => vcx P call lp T N a Q env H) (fun env' H' => vcx P call lp T N b Q env' H') true (joinVars (setsC a) (readsC b)) (joinEnv (setsC a) (readsC b) env) Q H
    | some _ => xJoin (fun Q => vcx P call lp T N a Q env H) (fun env' H' => vcx P call lp T N b Q env' H') false (joinVars (setsC a) (readsC b)) (joinEnv (setsC a) (readsC b) env) Q H
  | .cond c x y, Q, env, H => match opnd env c with
    | some (.v (.bool b)) => pcond b (vcx P call lp T N x Q env H) (vcx P call lp T N y Q env H)
    | _ => False
  | .block id c, Q, env, H => vcx P call lp T N c (blockQ id Q) env H
  | .exit id, Q, env, H => Q (.exit id) env H
  | .ret, Q, env, H => Q .ret env H
  | .label _, Q, env, H => Q .normal env H
  | .goto l, Q, env, H => Q (.goto l) env H
  | .loop c, Q, env, H => match lp (firstReg c) with
    | some L => L env H Q
    | none => xLoop (fun Q env H => vcx P call lp T N c Q env H) N Q (prune [] env) H
  | .scope c, Q, env, H => vcx P call lp T N c (scopeQ Q) env H
  | _, _, _, _ => False
def loopsOf : Code → List Code
  | .seq a b => loopsOf a ++ loopsOf b
  | .cond _ a b => loopsOf a ++ loopsOf b
  | .block _ c => loopsOf c
  | .loop c => c :: loopsOf c
  | .scope c => loopsOf c
  | _ => []
def LRule (P : Program) (nt : Nat) (c : Code) (L : LoopO) : Prop := ∀ env H Q, L env H Q → DW P nt (.loop c) Q env H
def LpAll (P : Program) (nt : Nat) (lp : Nat → Option LoopO) : List Code → Prop
  | [] => True
  | c :: r => (match lp (firstReg c) with
    | some L => LRule P nt c L
    | none => True) ∧ LpAll P nt lp r
theorem LpAll.app {P : Program} {nt : Nat} {lp : Nat → Option LoopO} : ∀ {l r : List Code}, LpAll P nt lp (l ++ r) → LpAll P nt lp l ∧ LpAll P nt lp r
  | [], r, h => ⟨trivial, h⟩
  | c :: l, r, h => by
    simp only [List.cons_append, LpAll] at h ⊢
    exact ⟨⟨h.1, h.2.app.1⟩, h.2.app.2⟩
theorem LpAll.none {P : Program} {nt : Nat} : ∀ (l : List Code), LpAll P nt (fun _ => none) l
  | [] => trivial
  | c :: l => ⟨trivial, LpAll.none l⟩
section
variable {P : Program} {T : Tbl} (hT : TblOk P T) {nt N : Nat} {call : CallO} {lp : Nat → Option LoopO}
theorem cond_prop {b : Bool} {X Y : Prop} (h : pcond b X Y) : (b = true → X) ∧ (b = false → Y) := by
  cases b with
  | true => exact ⟨fun _ => h, fun e => nomatch e⟩
  | false => exact ⟨fun e => (nomatch e), fun _ => h⟩
theorem pcond_intro {b : Bool} {X Y : Prop} (h1 : b = true → X) (h2 : b = false → Y) : pcond b X Y := by
  cases b with
  | true => exact h1 rfl
  | false => exact h2 rfl
theorem xOp_ok (hc : CallOK P call) {o : Oper} {env : Env} {H : Heap} {K : D → Heap → Tch → Prop} (h : xOp P call T o env H K) : vOp P T o env H K := by
  unfold vOp
  split
  · rename_i f args ts hop
    simp only [xOp, hop] at h
    split at h
    · rename_i g k caps ds hf ha
      split at h
      · rename_i p ho
        simp only [hf, ha]
        exact hc g (argsOf k caps ds) H K p ho h
      · exact h.elim
    · exact h.elim
  · rename_i r name args ts hop
    simp only [xOp, hop] at h
    split at h
    · rename_i t d ds hf ha
      split at h
      · rename_i g hm
        split at h
        · rename_i p ho
          simp only [hf, ha, hm]
          exact hc g (d :: ds) H K p ho h
        · exact h.elim
      · exact h.elim
    · exact h.elim
  · rename_i hne hne2
    unfold xOp at h
    split at h
    · rename_i hop
      exact absurd hop (hne _ _ _)
    · rename_i hop
      exact absurd hop (hne2 _ _ _ _)
    · rename_i it hop
      rw [hop]
      split at h
      · rename_i b hx
        split at h
        · rename_i s n hit
          show (match opP T env (.next it true) with
            | some (d, c) => c ∧ K d H .no
            | none => match opH T env H (.next it true) with
              | some out => out.c ∧ K out.d out.H out.touch
              | none => False)
          have e1 : opP T env (.next it true) = none := rfl
          have e2 : opH T env H (.next it true) = some ⟨nextD s n (decide (n.toNat < s.size)), H.set b (itBlk s (nextN s n (decide (n.toNat < s.size)))), .wr b, True⟩ := by
            simp only [opH, nextH, hx, hit]
          rw [e1, e2]
          refine ⟨trivial, ?_⟩
          cases hd : decide (n.toNat < s.size) with
          | true => rw [hd] at h; exact h
          | false => rw [hd] at h; exact h
        · exact h.elim
      · exact h.elim
    · exact h
theorem xOps_ok (hc : CallOK P call) {ops : Array Oper} : ∀ (l : List Oper) (env : Env) (H : Heap) (ts : List Tch) (K : Env → Heap → List Tch → Prop), xOps P call T ops l env H ts K → vOps P T ops l env H ts K
  | [], env, H, ts, K, h => h
  | o :: rest, env, H, ts, K, h => by
    simp only [xOps] at h
    simp only [vOps]
    split at h
    · rename_i hg
      simp only [hg]
      exact vOp_mono (xOp_ok hc h) fun d H' t hh => xOps_ok hc rest _ _ _ _ hh
    · rename_i j want hg
      split at h
      · exact h.elim
      · rename_i s hs
        split at h
        · rename_i g hl
          simp only [hg, hs, hl]
          cases want with
          | true =>
            obtain ⟨h1, h2⟩ := cond_prop h
            exact ⟨fun e => vOp_mono (xOp_ok hc (h1 e)) fun d H' t hh => xOps_ok hc rest _ _ _ _ hh, fun e => xOps_ok hc rest _ _ _ _ (h2 e)⟩
          | false =>
            obtain ⟨h1, h2⟩ := cond_prop h
            exact ⟨fun e => vOp_mono (xOp_ok hc (h2 e)) fun d H' t hh => xOps_ok hc rest _ _ _ _ hh, fun e => xOps_ok hc rest _ _ _ _ (h1 e)⟩
        · rename_i us hl
          simp only [hg, hs, hl]
          exact ⟨h.1, xOps_ok hc rest _ _ _ _ h.2⟩
        · exact h.elim
theorem xLoop_ok {c : Code} {body : (Exit → Env → Heap → Prop) → Env → Heap → Prop} (hb : ∀ Q env H, body Q env H → DW P nt c Q env H) {n : Nat} {Q : Exit → Env → Heap → Prop} {env : Env} {H : Heap} (h : xLoop body n Q (prune [] env) H) : DW P nt (.loop c) Q env H := by
  refine DW.loop (fun x : Nat × Env × Heap => xLoop body x.1 Q x.2.1 x.2.2) (fun x => x.2.1) (fun x => x.2.2) (fun x => x.1) (n, prune [] env, H) h (has_prune env) rfl ?_
  rintro ⟨m, en, hp⟩ hx
  simp only at hx ⊢
  cases m with
  | zero => exact hx.elim
  | succ m =>
    refine (hb _ _ _ hx).mono fun e env' H' hh => ?_
    cases e with
    | normal => exact ⟨(m, prune [] env', H'), by simp, hh, has_prune env', rfl⟩
    | _ => exact hh
include hT
theorem vcx_sound (hm : P.follows .mixedOrders = true) (hc : CallOK P call) : ∀ (c : Code) (Q : Exit → Env → Heap → Prop) (env : Env) (H : Heap), codeOk nt c = true → LpAll P nt lp (loopsOf c) → vcx P call lp T N c Q env H → DW P nt c Q env H
  | .skip, Q, env, H, hok, _, h => vcg_sound hT hm .skip Q env H hok h
  | .region id ops draw, Q, env, H, hok, _, h => by
    simp only [vcx] at h
    cases hco : coinCode T (.region id ops draw) with
    | some p =>
      obtain ⟨t, c, s⟩ := p
      rw [hco] at h
      simp only at h
      cases draw with
      | false => simp [coinCode] at hco
      | true => exact coin_sound hT hm hco hok fun v => by cases v; exact h.2; exact h.1
    | none =>
    rw [hco] at h
    simp only at h
    refine region_sound hT hm hok (vOps_mono _ _ _ _ (fun env' H' ts hh => ?_) (xOps_ok hc _ _ _ _ _ h))
    cases draw with
    | true => exact ⟨fun _ => hh.1, hh.2⟩
    | false => exact ⟨fun e => (nomatch e), hh⟩
  | .seq a b, Q, env, H, hok, hl, h => by
    simp only [codeOk, Bool.and_eq_true] at hok
    obtain ⟨hl1, hl2⟩ := LpAll.app hl
    intro ρ S w ac hi
    simp only [vcx] at h
    have main : ∀ isInt, xJoin (fun Q => vcx P call lp T N a Q env H) (fun env' H' => vcx P call lp T N b Q env' H') isInt (joinVars (setsC a) (readsC b)) (joinEnv (setsC a) (readsC b) env) Q H → Code.wp P (.seq a b) (fun e a' w' => ∃ env' H' ρ' S', Q e env' H' ∧ Inv nt ρ' S' w' H' env' a' ∧ (ctx ρ S w H).le (ctx ρ' S' w' H')) ac w := fun isInt h => by
      obtain ⟨R, h, hR⟩ := xJoin_use h
      refine wp_seq (wp_mono (vcx_sound hm hc a _ env H hok.1 hl1 h  ρ S w ac hi) fun e a' w' ⟨env', H', ρ', S', h1, h2, h3⟩ => ?_)
      cases e with
      | normal =>
        obtain ⟨rfl, env2, hh, hb⟩ := hR _ _ h1
        refine wp_mono (vcx_sound hm hc b Q env2 H' hok.2 hl2 hb  ρ' S' w' a' (h2.sub hh)) fun e a'' w'' ⟨env'', H'', ρ'', S'', h4, h5, h6⟩ => ?_
        exact ⟨env'', H'', ρ'', S'', h4, h5, h3.trans h6⟩
      | _ => exact ⟨env', H', ρ', S', h1, h2, h3⟩
    split at h
    · split at h
      · refine wp_seq (wp_mono (vcx_sound hm hc a _ env H hok.1 hl1 h  ρ S w ac hi) fun e a' w' ⟨env', H', ρ', S', h1, h2, h3⟩ => ?_)
        cases e with
        | normal =>
          refine wp_mono (vcx_sound hm hc b Q env' H' hok.2 hl2 h1  ρ' S' w' a' h2) fun e a'' w'' ⟨env'', H'', ρ'', S'', h4, h5, h6⟩ => ?_
          exact ⟨env'', H'', ρ'', S'', h4, h5, h3.trans h6⟩
        | _ => exact ⟨env', H', ρ', S', h1, h2, h3⟩
      · exact main true h
    · exact main false h
  | .cond c x y, Q, env, H, hok, hl, h => by
    simp only [codeOk, Bool.and_eq_true] at hok
    obtain ⟨hl1, hl2⟩ := LpAll.app hl
    intro ρ S w ac hi
    simp only [vcx] at h
    split at h
    · rename_i b hb
      have hv := get_rd hi.st.glob hi.env c _ hb
      simp only [Rd] at hv
      obtain ⟨h1, h2⟩ := cond_prop h
      cases b with
      | true => exact wp_cond hv (vcx_sound hm hc x Q env H hok.1 hl1 (h1 rfl) ρ S w ac hi)
      | false => exact wp_cond hv (vcx_sound hm hc y Q env H hok.2 hl2 (h2 rfl) ρ S w ac hi)
    · exact h.elim
  | .block id c, Q, env, H, hok, hl, h => by
    simp only [codeOk] at hok
    intro ρ S w ac hi
    refine wp_block (wp_mono (vcx_sound hm hc c _ env H hok hl h ρ S w ac hi) fun e a' w' ⟨env', H', ρ', S', h1, h2, h3⟩ => ?_)
    cases e with
    | exit id' =>
      simp only [blockQ] at h1
      simp only [Exit.inBlock]
      split
      · rename_i he; rw [if_pos he] at h1; exact ⟨env', H', ρ', S', h1, h2, h3⟩
      · rename_i he; rw [if_neg he] at h1; exact ⟨env', H', ρ', S', h1, h2, h3⟩
    | _ => exact ⟨env', H', ρ', S', h1, h2, h3⟩
  | .exit id, Q, env, H, hok, _, h => vcg_sound hT hm (.exit id) Q env H hok h
  | .ret, Q, env, H, hok, _, h => vcg_sound hT hm .ret Q env H hok h
  | .label l, Q, env, H, hok, _, h => vcg_sound hT hm (.label l) Q env H hok h
  | .goto l, Q, env, H, hok, _, h => vcg_sound hT hm (.goto l) Q env H hok h
  | .refuse _, _, _, _, _, _, h => h.elim
  | .scope c, Q, env, H, hok, hl, h => by
    simp only [codeOk] at hok
    intro ρ S w ac hi
    refine wp_scope_straight (wp_mono (vcx_sound hm hc c _ env H hok hl h ρ S w ac hi) fun e a' w' ⟨env', H', ρ', S', h1, h2, h3⟩ => ?_)
    cases e with
    | goto l => exact h1.elim
    | _ => exact ⟨env', H', ρ', S', h1, h2, h3⟩
  | .rangeFunc .., Q, env, H, _, _, h => h.elim
  | .loop c, Q, env, H, hok, hl, h => by
    simp only [codeOk] at hok
    simp only [loopsOf, LpAll] at hl
    simp only [vcx] at h
    cases hlp : lp (firstReg c) with
    | some L =>
      simp only [hlp] at h hl
      exact hl.1 env H Q h
    | none =>
      simp only [hlp] at h
      exact xLoop_ok (fun Q env H hh => vcx_sound hm hc c Q env H hok hl.2 hh) h
theorem pureJ_of_vcx (hm : P.follows .mixedOrders = true) (hc : CallOK P call) {f : FuncId} {fn : Func} {c : Code} {ds : List D} {d : D} (hf : P.funcs[f]? = some fn) (hb : fn.body = some c)
    (hname : (fn.name == "runtime.NumGoroutine") = false) (hok : codeOk fn.ntmps c = true) (hlen : decide (ds.length ≤ fn.ntmps) = true) (hl : LpAll P fn.ntmps lp (loopsOf c)) (h1 : NamelessL ds) (h2 : Nameless d)
    (h : vcx P call lp T N c (retQ T fn.results.toList fun d1 H1 => SealTo H1 d1 d) (envOf 0 ds) []) : PureJ P f ds d := by
  refine PureJ.of_nil h1 h2 (callJ_of_dw hT hf hb hname (by simpa using hlen) ((vcx_sound hT hm hc c _ _ _ hok hl h).mono fun e env H h => ?_))
  cases e <;> simp only [retQ] at h ⊢
  all_goals first
    | exact h.elim
    | (split at h
       · exact ⟨h.1, fin_seal h.2⟩
       · exact h.elim)
end
abbrev Ent := List D → Option (D × Prop)
def EntOk (P : Program) (g : FuncId) (e : Ent) : Prop := ∀ ds d c, e ds = some (d, c) → c → PureJ P g ds d
def pureO (e : Ent) (ds : List D) (H : Heap) : Option HOut := match e ds with
  | some (d, c) => some ⟨d, H, .no, c⟩
  | none => match sealL H ds with
    | some (ds', c') => match e ds' with
      | some (d, c) => bif scalarB d then some ⟨d, H, .ra, c' ∧ c⟩ else some ⟨d, dropN H (namesD.namesA ds), .al, c' ∧ c⟩
      | none => none
    | none => none
def outO (o : Option HOut) (K : D → Heap → Tch → Prop) : Option Prop := match o with
  | some out => some (out.c ∧ K out.d out.H out.touch)
  | none => none
def noCalls : CallO := fun _ _ _ _ => none
def addPure (f : FuncId) (e : Ent) (r : CallO) : CallO := fun g ds H K => bif Nat.beq g f then outO (pureO e ds H) K else r g ds H K
theorem noCalls_ok {P : Program} : CallOK P noCalls := fun g ds H K p h => by cases h
theorem addPure_ok {P : Program} {f : FuncId} {e : Ent} {r : CallO} (he : EntOk P f e) (hr : CallOK P r) : CallOK P (addPure f e r) := by
  intro g ds H K p h hp
  unfold addPure at h
  cases hg : Nat.beq g f with
  | false => rw [hg] at h; exact hr g ds H K p h hp
  | true =>
    rw [hg] at h
    have hgf : g = f := Nat.eq_of_beq_eq_true hg
    subst hgf
    simp only [cond_true] at h
    unfold outO at h
    split at h
    · rename_i out ho
      injection h with h; subst h
      obtain ⟨hc, hk⟩ := hp
      unfold pureO at ho
      split at ho
      · rename_i d c hd
        injection ho with ho; subst ho
        exact .pure d (he ds d c hd hc) hk
      · split at ho
        · rename_i ds' c' hs
          split at ho
          · rename_i d c hd
            cases hsc : scalarB d with
            | false =>
              rw [hsc] at ho
              injection ho with ho; subst ho
              exact .own d _ ((he ds' d c hd hc.2).hand hs hc.1) hk
            | true =>
              rw [hsc] at ho
              injection ho with ho; subst ho
              exact .reads d ((he ds' d c hd hc.2).borrow hs hc.1 hsc) hk
          · cases ho
        · cases ho
    · cases h
theorem of_eq {A B : Prop} (h : A = B) (b : B) : A := h.mpr b
end Go.VD
end
section
namespace Go.VD
set_option linter.unusedVariables false
set_option linter.unusedSimpArgs false
section
variable {T : Tbl} {t e : TypeId} {a b : Nat} {z : List Value} {cs : List D}
theorem TC.bool_inv (h : T t = some ⟨.bool, a, b, z⟩) (hc : TC T t cs) : ∃ x, cs = [.v (.bool x)] := by
  cases hc <;> simp_all
theorem TC.int_inv {k : IntKind} (h : T t = some ⟨.int k, a, b, z⟩) (hc : TC T t cs) : ∃ n, cs = [.v (.int k n)] ∧ (Lit.int k n).wf = true := by
  cases hc <;> simp_all
theorem TC.str_inv (h : T t = some ⟨.str, a, b, z⟩) (hc : TC T t cs) : ∃ s : ByteArray, cs = [.v (.string s)] ∧ s.size ≤ maxLen := by
  cases hc <;> simp_all
theorem TC.slice_inv (h : T t = some ⟨.slice e, a, b, z⟩) (hc : TC T t cs) : ∃ chunks : List (List D), cs = [.ro chunks.length chunks.flatten] ∧ chunks.length ≤ maxLen ∧ ∀ c ∈ chunks, TC T e c := by
  cases hc with
  | slice h' chunks hl hcc => rw [h] at h'; simp only [Option.some.injEq, TI.mk.injEq, TD.slice.injEq] at h'; obtain ⟨rfl, _⟩ := h'; exact ⟨chunks, rfl, hl, hcc⟩
  | _ => simp_all
theorem TC.arr_inv {n : Nat} (h : T t = some ⟨.arr n e, a, b, z⟩) (hc : TC T t cs) : ∃ chunks : List (List D), cs = chunks.flatten ∧ chunks.length = n ∧ ∀ c ∈ chunks, TC T e c := by
  cases hc with
  | arr h' chunks hl hcc => rw [h] at h'; simp only [Option.some.injEq, TI.mk.injEq, TD.arr.injEq] at h'; obtain ⟨⟨rfl, rfl⟩, _⟩ := h'; exact ⟨chunks, rfl, hl, hcc⟩
  | _ => simp_all
theorem TC.struct_inv {fs : List (Nat × TypeId)} (h : T t = some ⟨.struct fs, a, b, z⟩) (hc : TC T t cs) : ∃ parts : List (List D), cs = parts.flatten ∧ parts.length = fs.length ∧ ∀ (i : Nat) (p : List D) (f : Nat × TypeId), parts[i]? = some p → fs[i]? = some f → TC T f.2 p := by
  cases hc with
  | struct h' parts hl hp => rw [h] at h'; simp only [Option.some.injEq, TI.mk.injEq, TD.struct.injEq] at h'; obtain ⟨rfl, _⟩ := h'; exact ⟨parts, rfl, hl, hp⟩
  | _ => simp_all
def TFields (T : Tbl) : List (Nat × TypeId) → List D → Prop
  | [], cs => cs = []
  | f :: fs, cs => ∃ p r, cs = p ++ r ∧ TC T f.2 p ∧ TFields T fs r
theorem tfields_of : ∀ (fs : List (Nat × TypeId)) (parts : List (List D)), parts.length = fs.length → (∀ (i : Nat) (p : List D) (f : Nat × TypeId), parts[i]? = some p → fs[i]? = some f → TC T f.2 p) → TFields T fs parts.flatten
  | [], parts, hl, _ => by
    have : parts = [] := List.eq_nil_of_length_eq_zero hl
    subst this; simp [TFields]
  | f :: fs, [], hl, _ => by simp at hl
  | f :: fs, p :: parts, hl, h => by
    simp only [TFields, List.flatten_cons]
    exact ⟨p, parts.flatten, rfl, h 0 p f (by simp) (by simp), tfields_of fs parts (by simpa using hl) fun i p' f' hp hf => h (i + 1) p' f' (by simpa using hp) (by simpa using hf)⟩
theorem TC.fields {fs : List (Nat × TypeId)} (h : T t = some ⟨.struct fs, a, b, z⟩) (hc : TC T t cs) : TFields T fs cs := by
  obtain ⟨parts, rfl, hl, hp⟩ := hc.struct_inv h
  exact tfields_of fs parts hl hp
theorem targ_struct {fs : List (Nat × TypeId)} {d : D} (h : T t = some ⟨.struct fs, a, b, z⟩) (hd : ∃ ti cs, T t = some ti ∧ TC T t cs ∧ d = (if ti.td.isAgg then .agg cs else cs.headD default)) : ∃ cs, d = .agg cs ∧ TFields T fs cs := by
  obtain ⟨ti, cs, h1, h2, h3⟩ := hd
  rw [h] at h1; injection h1 with h1; subst h1
  exact ⟨cs, h3, h2.fields h⟩
theorem targ_int {k : IntKind} {d : D} (h : T t = some ⟨.int k, a, b, z⟩) (hd : ∃ ti cs, T t = some ti ∧ TC T t cs ∧ d = (if ti.td.isAgg then .agg cs else cs.headD default)) : ∃ n, d = .v (.int k n) ∧ (Lit.int k n).wf = true := by
  obtain ⟨ti, cs, h1, h2, h3⟩ := hd
  rw [h] at h1; injection h1 with h1; subst h1
  obtain ⟨n, rfl, hw⟩ := h2.int_inv h
  exact ⟨n, h3, hw⟩
theorem targ_slice {d : D} (h : T t = some ⟨.slice e, a, b, z⟩) (hd : ∃ ti cs, T t = some ti ∧ TC T t cs ∧ d = (if ti.td.isAgg then .agg cs else cs.headD default)) : ∃ chunks : List (List D), d = .ro chunks.length chunks.flatten ∧ chunks.length ≤ maxLen ∧ ∀ c ∈ chunks, TC T e c := by
  obtain ⟨ti, cs, h1, h2, h3⟩ := hd
  rw [h] at h1; injection h1 with h1; subst h1
  obtain ⟨chunks, rfl, hs, hc⟩ := h2.slice_inv h
  exact ⟨chunks, h3, hs, hc⟩
theorem wf_i64 {n : Int} (h : (Lit.int .i64 n).wf = true) : -9223372036854775808 ≤ n ∧ n < 9223372036854775808 := by
  simp [Lit.wf, IntKind.min, IntKind.max, IntKind.bits, IntKind.signed] at h; omega
end
end Go.VD
end
section
namespace Go.VD
open Go.ChangeShapes Go.WideShapes Go.ChangeAt Go.RowKit
set_option linter.unusedVariables false
set_option linter.unusedSimpArgs false
mutual
def flatD {H : Type} : DataW H → Option (List Value)
  | .lit (.int k n) => some [.int k n]
  | .lit (.bool b) => some [.bool b]
  | .agg ps => flatDs ps
  | _ => none
def flatDs {H : Type} : List (DataW H) → Option (List Value)
  | [] => some []
  | d :: r => match flatD d, flatDs r with
    | some a, some b => some (a ++ b)
    | _, _ => none
end
section
variable {H : Type} {enc : TypeId × Value → H} {P : Program} {T : Tbl}
theorem flat_rows {w : World} {base : Nat} {spare : Nat → Bool} {held : Bool} {m sz : Nat} {e : TypeId} (ih : ∀ (cs : List Value) (x : DataW H × List MemPlace) (vals : List Value), DataW.trod enc P w base spare held m e cs = some x → flatD x.1 = some vals → cs = vals) :
    ∀ (xs : List (DataW H × List MemPlace)) (cs vals : List Value), cs.length = xs.length * sz → (∀ (i : Nat) (x : DataW H × List MemPlace), xs[i]? = some x → DataW.trod enc P w base spare held m e ((cs.drop (i * sz)).take sz) = some x) → flatDs (xs.map (·.1)) = some vals → cs = vals
  | [], cs, vals, hl, _, hf => by
    simp only [List.map_nil, flatDs, Option.some.injEq] at hf
    subst hf
    exact List.eq_nil_of_length_eq_zero (by simpa using hl)
  | x :: xs, cs, vals, hl, h, hf => by
    simp only [List.map_cons, flatDs] at hf
    split at hf
    · rename_i a b ha hb
      injection hf with hf; subst hf
      have h0 := h 0 x (by simp)
      simp only [Nat.zero_mul, List.drop_zero] at h0
      have e1 := ih _ _ _ h0 ha
      have hl' : (cs.drop sz).length = xs.length * sz := by
        rw [List.length_drop, hl, List.length_cons, Nat.add_mul, Nat.one_mul]; omega
      have e2 := flat_rows ih xs (cs.drop sz) b hl' (fun i y hy => by
        have := h (i + 1) y (by simpa using hy)
        rw [List.drop_drop]
        rwa [Nat.add_mul, Nat.one_mul, Nat.add_comm] at this) hb
      rw [← e1, ← e2, List.take_append_drop]
    · cases hf
theorem flat_fields {w : World} {base : Nat} {spare : Nat → Bool} {held : Bool} {m sz : Nat} (hT : TblOk P T) {cs : List Value} (hcs : cs.length = sz) :
    ∀ (fs : List (Nat × TypeId)) (off : Nat) (xs : List (DataW H × List MemPlace)) (vals : List Value), (∀ f ∈ fs, ∀ (cs : List Value) (x : DataW H × List MemPlace) (vals : List Value), DataW.trod enc P w base spare held m f.2 cs = some x → flatD x.1 = some vals → cs = vals) →
      contig T fs off sz = true → xs.length = fs.length → (∀ (i : Nat) (f : Nat × TypeId), fs[i]? = some f → DataW.trod enc P w base spare held m f.2 ((cs.drop f.1).take (P.cellsOf f.2)) = xs[i]?) → flatDs (xs.map (·.1)) = some vals → cs.drop off = vals
  | [], off, xs, vals, _, hc, hl, _, hf => by
    have hx : xs = [] := List.eq_nil_of_length_eq_zero (by simpa using hl)
    subst hx
    simp only [List.map_nil, flatDs, Option.some.injEq] at hf
    subst hf
    simp only [contig, beq_iff_eq] at hc
    rw [List.drop_eq_nil_of_le (by rw [hcs, hc]; exact Nat.le_refl _)]
  | f :: fs, off, [], vals, _, hc, hl, _, hf => by simp at hl
  | (o, ft) :: fs, off, x :: xs, vals, ih, hc, hl, h, hf => by
    simp only [List.map_cons, flatDs] at hf
    simp only [contig] at hc
    split at hc
    · rename_i ti hti
      simp only [Bool.and_eq_true, beq_iff_eq] at hc
      obtain ⟨rfl, hc⟩ := hc
      split at hf
      · rename_i a b ha hb
        injection hf with hf; subst hf
        have h0 := h 0 (o, ft) (by simp)
        rw [List.getElem?_cons_zero] at h0
        have e1 := ih (o, ft) (by simp) _ _ _ h0 ha
        have e2 := flat_fields hT hcs fs (o + ti.size) xs b (fun f hf => ih f (by simp [hf])) hc (by simpa using hl) (fun i f hi => by simpa using h (i + 1) f (by simpa using hi)) hb
        rw [(hT.ok ft _ hti).cellsOf] at e1
        rw [← e1, ← e2, ← List.drop_drop, List.take_append_drop]
      · cases hf
    · cases hc
theorem trod_flat (hT : TblOk P T) {w : World} {base : Nat} {spare : Nat → Bool} {held : Bool} : ∀ (n : Nat) (fuel : Nat) (t : TypeId), canRead T n t = true → ∀ (cs : List Value) (x : DataW H × List MemPlace) (vals : List Value),
    DataW.trod enc P w base spare held fuel t cs = some x → flatD x.1 = some vals → cs = vals
  | 0, fuel, t, h => by simp [canRead] at h
  | n + 1, fuel, t, hcan => by
    intro cs x vals h hf
    simp only [canRead] at hcan
    split at hcan
    · rename_i sz b z ht
      have hu := (hT.ok t _ ht).bool rfl
      cases fuel with
      | zero => simp [DataW.trod] at h
      | succ m =>
        unfold DataW.trod at h; rw [hu] at h
        split at h <;> simp_all
        rename_i y _
        subst h
        simp only [flatD, Option.some.injEq] at hf
        exact hf
    · rename_i k sz b z ht
      have hu := (hT.ok t _ ht).int rfl
      cases fuel with
      | zero => simp [DataW.trod] at h
      | succ m =>
        unfold DataW.trod at h; rw [hu] at h
        split at h <;> simp_all
        obtain ⟨⟨rfl, _⟩, rfl⟩ := h
        simp only [flatD, Option.some.injEq] at hf
        exact hf
    · rename_i sz b z ht
      have hu := (hT.ok t _ ht).str rfl
      cases fuel with
      | zero => simp [DataW.trod] at h
      | succ m =>
        unfold DataW.trod at h; rw [hu] at h
        split at h <;> simp_all
        obtain ⟨_, rfl⟩ := h
        simp [flatD] at hf
    · rename_i e sz b z ht
      have hu := (hT.ok t _ ht).slice rfl
      rcases DataW.trod_slice hu h with ⟨_, hx⟩ | ⟨a, len, cap, elems, rest, m, _, _, hx, _⟩
      · rw [hx] at hf; simp [flatD] at hf
      · rw [hx] at hf; simp [flatD] at hf
    · rename_i fs sz b z ht
      simp only [Bool.and_eq_true] at hcan
      obtain ⟨F, hF, hm⟩ := (hT.ok t _ ht).struct rfl
      obtain ⟨xs, m, _, hx, hcs, hxs, hread⟩ := DataW.trod_struct hF h
      rw [(hT.ok t _ ht).cellsOf] at hcs
      rw [hx] at hf
      simp only [flatD] at hf
      have hall := List.all_eq_true.1 hcan.2
      have hfl : fs.length = F.size := by rw [← hm]; simp
      have := flat_fields hT hcs fs 0 xs vals (fun f hf => trod_flat hT n m f.2 (hall f hf)) hcan.1 (by omega) (fun i f hi => by
        have hlt := (List.getElem?_eq_some_iff.1 hi).1
        have hFi : F[i]? = some (F[i]'(by omega)) := Array.getElem?_eq_getElem (by omega)
        have e : (F.toList.map fun f => (f.offset, f.type))[i]? = fs[i]? := by rw [hm]
        rw [List.getElem?_map, Array.getElem?_toList, hFi, hi] at e
        simp only [Option.map_some, Option.some.injEq] at e
        subst e
        exact hread i _ hFi) hf
      simpa using this
    · rename_i k e sz b z ht
      simp only [Bool.and_eq_true] at hcan
      have hu := (hT.ok t _ ht).arr rfl
      obtain ⟨xs, m, _, hx, hcs, hxs, hread⟩ := DataW.trod_array hu h
      rw [hx] at hf
      simp only [flatD] at hf
      have h2 := hcan.2
      split at h2
      · rename_i te hte
        rw [(hT.ok e _ hte).cellsOf] at hread
        rw [(hT.ok t _ ht).cellsOf] at hcs
        simp only [beq_iff_eq] at h2
        exact flat_rows (sz := te.size) (fun cs x vals => trod_flat hT n m e hcan.1 cs x vals) xs cs vals (by rw [hcs, h2, hxs]) (fun i y hy => by
          have := hread i (by have := (List.getElem?_eq_some_iff.1 hy).1; omega)
          rw [this, hy]) hf
      · cases h2
    · cases hcan
end
def globB (P : Program) (T : Tbl) (laid : List (String × DataW Unit)) : Bool := glob.all fun p => laid.any fun q => ((match P.globalNamed q.1 with
    | some g => Nat.beq g p.1
    | none => false) && (match (P.globals[p.1]?).map (·.type) with
    | some t => canRead T 20 t
    | none => false)) && (match flatD q.2 with
    | some vs => sameScalars p.2 vs
    | none => false)
theorem laidVars_mem {P : Program} {w : World} : ∀ (laid : List (String × DataW Unit)) (ps : List MemPlace), DataW.LaidVars P w laid ps → ∀ q ∈ laid, ∃ g t cs fuel p, P.globalNamed q.1 = some g ∧ (P.globals[g]?).map (·.type) = some t ∧ w.var? P q.1 = some cs ∧ DataW.trod (fun _ => ()) P w 0 (fun _ => true) false fuel t cs.toList = some (q.2, p)
  | [], _, _, q, hq => by simp at hq
  | (n, d) :: r, ps, h, q, hq => by
    obtain ⟨g, t, cs, fuel, p, q', h1, h2, h3, h4, h5, _⟩ := h
    rcases List.mem_cons.1 hq with rfl | hq
    · exact ⟨g, t, cs, fuel, p, h1, h2, h3, h4⟩
    · exact laidVars_mem r q' h5 q hq
theorem lookup_mem : ∀ {l : List (Nat × List Value)} {g : Nat} {xs : List Value}, l.lookup g = some xs → (g, xs) ∈ l
  | [], g, xs, h => by simp at h
  | (k, ys) :: l, g, xs, h => by
    rw [List.lookup_cons] at h
    split at h
    · rename_i hk
      injection h with h
      have : g = k := by simpa using hk
      subst this; subst h; simp
    · exact List.mem_cons_of_mem _ (lookup_mem h)
theorem gok_of_laid {P : Program} {T : Tbl} (hT : TblOk P T) {W : World} {laid : List (String × DataW Unit)} (hB : globB P T laid = true) (h : laidMet P laid W) : GOK (fun k => k < W.heap.size) W := by
  intro g xs hg
  obtain ⟨ps, hv, _⟩ := h
  have hm := lookup_mem hg
  unfold globB at hB
  have h1 := List.all_eq_true.1 hB _ hm
  obtain ⟨q, hq, h2⟩ := List.any_eq_true.1 h1
  simp only [Bool.and_eq_true] at h2
  obtain ⟨⟨h3, h4⟩, h5⟩ := h2
  obtain ⟨g', t, cs, fuel, p, e1, e2, e3, e4⟩ := laidVars_mem laid ps hv q hq
  rw [e1] at h3
  have hgg : g' = g := Nat.eq_of_beq_eq_true h3
  subst hgg
  rw [e2] at h4
  split at h5
  · rename_i vs hvs
    obtain ⟨rfl, hone⟩ := sameScalars_eq h5
    have hcs := trod_flat hT 20 fuel t h4 _ _ _ e4 hvs
    refine ⟨?_, RdAt.mk _ _ _ fun i d hi => ?_⟩
    · have := e3
      simp only [World.var?, e1, Option.bind_some] at this
      split at this
      · rename_i hh
        exact (Array.getElem?_eq_some_iff.1 hh).1
      · cases this
    · unfold gcells at hi
      rw [List.getElem?_map] at hi
      obtain ⟨u, hu, rfl⟩ := Option.map_eq_some_iff.1 hi
      refine ⟨u, ?_, hone u (List.mem_of_getElem? hu), by simp [Rd]⟩
      have hc := World.var?_cell e1 e3 i
      rw [← Array.getElem?_toList, hcs, hu] at hc
      have ea : (⟨g', 0, none⟩ : Addr).add (0 + i) = ⟨g', i, none⟩ := by
        unfold Addr.add
        by_cases h0 : i = 0
        · subst h0; simp
        · simp [h0]
      show W.cell? _ = _
      rw [ea]; exact hc
  · cases h5
end Go.VD
end
