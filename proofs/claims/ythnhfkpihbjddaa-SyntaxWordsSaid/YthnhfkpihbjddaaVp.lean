/- From the conditions of a body to a contract; the ways to hand own blocks to a callee. -/
import Derived.Test.YthnhfkpihbjddaaVo
namespace Go.VD
set_option linter.unusedVariables false
set_option linter.unusedSimpArgs false

def resD (T : Tbl) (env : Env) (H : Heap) : List ResultVar → Option (List D × Prop)
  | [] => some ([], True)
  | .tmp t :: r => match env.lookup t, resD T env H r with
    | some d, some (ds, c) => some (d :: ds, c)
    | _, _ => none
  | .cell a ty :: r => match env.lookup a, resD T env H r with
    | some (.ptr b off), some (ds, c) => match blkAt H b, T ty with
      | some blk, some ti => some ((partD ti blk.cs off).1 :: ds, (partD ti blk.cs off).2 ∧ c)
      | _, _ => none
    | _, _ => none
def retD : List D → D
  | [d] => d
  | ds => .tup ds
def retQ (T : Tbl) (rs : List ResultVar) (K : D → Heap → Prop) : Exit → Env → Heap → Prop
  | .normal, env, H => match resD T env H rs with
    | some (ds, c) => c ∧ K (retD ds) H
    | none => False
  | .ret, env, H => match resD T env H rs with
    | some (ds, c) => c ∧ K (retD ds) H
    | none => False
  | _, _, _ => False

def envOf : Nat → List D → Env
  | _, [] => []
  | k, d :: ds => (k, d) :: envOf (k + 1) ds

def resOne (tmps : Array Value) : ResultVar → Sem Value
  | .tmp t => pure (tmps.getD t undef)
  | .cell a t => do loadVar t (← asAddr (tmps.getD a undef))
theorem results_eq (fn : Func) (tmps : Array Value) : results fn tmps = (do
    let vs ← fn.results.mapM (resOne tmps)
    pure (if h : vs.size = 1 then vs[0] else .tuple vs)) := by
  unfold results
  congr 2

section
variable {P : Program} {T : Tbl}

theorem envOf_rd {E : Ctx} : ∀ (ds : List D) (us : List Value) (k : Nat) (pre : List Value) (post : List Value), pre.length = k → RdT E ds us → ∀ t d, (envOf k ds).lookup t = some d → Rd E d ((pre ++ us ++ post).toArray.getD t undef)
  | [], us, k, pre, post, hk, hr, t, d, h => by simp [envOf] at h
  | d :: ds, us, k, pre, post, hk, hr, t, d', h => by
    simp only [RdT] at hr
    obtain ⟨u, r, rfl, hd, hr⟩ := hr
    simp only [envOf, List.lookup_cons] at h
    split at h
    · rename_i ht
      have ht : t = k := by simpa using ht
      injection h with h; subst h; subst ht
      have : (pre ++ u :: r ++ post).toArray.getD t undef = u := by
        simp [Array.getD_eq_getD_getElem?, hk, List.getElem?_append]
      rw [this]; exact hd
    · have := envOf_rd ds r (k + 1) (pre ++ [u]) post (by simp [hk]) hr t d' h
      simpa using this

theorem resD_run (hT : TblOk P T) {ρ : Nat → Nat × Nat} {S : Nat → Prop} {w : World} {H : Heap} {env : Env} {a : Act} (hS : St ρ S w H) (he : ∀ t d, env.lookup t = some d → Rd (ctx ρ S w H) d (a.tmps.getD t undef)) :
    ∀ (rs : List ResultVar) (ds : List D) (c : Prop), resD T env H rs = some (ds, c) → c →
      ∃ us : List Value, (rs.mapM (resOne a.tmps)).run P w = .ok us w ∧ RdT (ctx ρ S w H) ds us
  | [], ds, c, h, hc => by simp only [resD] at h; obtain ⟨rfl, rfl⟩ := pair_inj h; exact ⟨[], by simp, by simp [RdT]⟩
  | .tmp t :: r, ds, c, h, hc => by
    simp only [resD] at h
    split at h
    · rename_i d ds' c' h1 h2
      obtain ⟨rfl, rfl⟩ := pair_inj h
      obtain ⟨us, h3, h4⟩ := resD_run hT hS he r ds' _ h2 hc
      refine ⟨a.tmps.getD t undef :: us, ?_, ?_⟩
      · simp only [List.mapM_cons, resOne, Sem.run_bind, Sem.run_pure, Result.andThen_ok, h3]
      · simp only [RdT]; exact ⟨_, _, rfl, he t d h1, h4⟩
    · cases h
  | .cell x ty :: r, ds, c, h, hc => by
    simp only [resD] at h
    split at h
    · rename_i b off ds' c' h1 h2
      split at h
      · rename_i blk ti hb hty
        obtain ⟨rfl, rfl⟩ := pair_inj h
        obtain ⟨us, h3, h4⟩ := resD_run hT hS he r ds' _ h2 hc.2
        have hx := he x _ h1
        simp only [Rd] at hx
        obtain ⟨v, h5, h6⟩ := load_blk (P := P) hS (blkAt_some hb) (blkAt_ty hb) (hT.ok ty ti hty) hc.1
        refine ⟨v :: us, ?_, ?_⟩
        · simp only [List.mapM_cons, resOne, Sem.run_bind, Sem.run_pure, Result.andThen_ok, hx.2, asAddr, h5, h3]
        · simp only [RdT]; exact ⟨_, _, rfl, h6, h4⟩
      · cases h
    · cases h

/-- what a function leaves, given what its body leaves -/
def Fin (ds : List D) (H : Heap) (d1 : D) (H1 : Heap) (d : D) (H' : Heap) : Prop :=
  ∀ ρ0 S0 w0 ρ S w u, St ρ0 S0 w0 H → (ctx ρ0 S0 w0 H).le (ctx ρ S w H1) → St ρ S w H1 → Rd (ctx ρ S w H1) d1 u → ∃ ρ' S', St ρ' S' w H' ∧ (ctx ρ0 S0 w0 H).le (ctx ρ' S' w H') ∧ Rd (ctx ρ' S' w H') d u

theorem callable_of {f : FuncId} {fn : Func} {c : Code} (hf : P.funcs[f]? = some fn) (hb : fn.body = some c) (hname : (fn.name == "runtime.NumGoroutine") = false) : Callable P f := ⟨fn, hf, by simp [hb], hname⟩

theorem callJ_of_dw (hT : TblOk P T) {f : FuncId} {fn : Func} {c : Code} {ds : List D} {H H' : Heap} {d : D} (hf : P.funcs[f]? = some fn) (hb : fn.body = some c)
    (hname : (fn.name == "runtime.NumGoroutine") = false) (hlen : ds.length ≤ fn.ntmps)
    (h : DW P fn.ntmps c (retQ T fn.results.toList fun d1 H1 => Fin ds H d1 H1 d H') (envOf 0 ds) H) : CallJ P f ds H d H' := by
  refine ⟨callable_of hf hb hname, fun ρ S w vals hS hv => ?_⟩
  have hvl : vals.length = ds.length := by
    have : ∀ (ds : List D) (us : List Value), RdT (ctx ρ S w H) ds us → us.length = ds.length := by
      intro ds
      induction ds with
      | nil => intro us h; simp only [RdT] at h; simp [h]
      | cons d ds ih => intro us h; simp only [RdT] at h; obtain ⟨u, r, rfl, _, h⟩ := h; simp [ih r h]
    exact this ds vals hv
  refine calls_of_wp hf hb ?_
  have hinv : Inv fn.ntmps ρ S w H (envOf 0 ds) { tmps := vals.toArray ++ Array.replicate (fn.ntmps - vals.toArray.size) undef, defers := [] } := by
    refine ⟨hS, fun t d' ht => ?_, by simp; omega, rfl⟩
    have := envOf_rd ds vals 0 [] (List.replicate (fn.ntmps - vals.toArray.size) undef) rfl hv t d' ht
    have e : vals.toArray ++ Array.replicate (fn.ntmps - vals.toArray.size) undef = (vals ++ List.replicate (fn.ntmps - vals.toArray.size) undef).toArray := by
      apply Array.toList_inj.1; simp
    rw [e]
    simpa using this
  refine wp_mono (h ρ S w _ hinv) fun e a' w' ⟨env', H1, ρ', S', h1, h2, h3⟩ => ?_
  have fin : (match resD T env' H1 fn.results.toList with | some (ds', c) => c ∧ Fin ds H (retD ds') H1 d H' | none => False) →
      a'.defers = [] ∧ ∃ v, (results fn a'.tmps).run P w' = .ok v w' ∧ ∃ v' ρ' S', Ending.returned v = .returned v' ∧ St ρ' S' w' H' ∧ (ctx ρ S w H).le (ctx ρ' S' w' H') ∧ Rd (ctx ρ' S' w' H') d v' := by
    intro h1
    split at h1
    · rename_i rs c' hres
      obtain ⟨us, hu1, hu2⟩ := resD_run hT h2.st h2.env _ _ _ hres h1.1
      have hrun : (results fn a'.tmps).run P w' = .ok (if h : us.toArray.size = 1 then us.toArray[0] else .tuple us.toArray) w' := by
        rw [results_eq, Array.mapM_eq_mapM_toList]
        simp only [Sem.run_bind, Sem.run_map, hu1, Result.andThen_ok, Sem.run_pure]
      have hrd : Rd (ctx ρ' S' w' H1) (retD rs) (if h : us.toArray.size = 1 then us.toArray[0] else .tuple us.toArray) := by
        cases rs with
        | nil => simp only [RdT] at hu2; subst hu2; simp only [retD]; simp only [Rd]; exact ⟨#[], by simp, by simp [RdT]⟩
        | cons d0 rs =>
          simp only [RdT] at hu2
          obtain ⟨u0, r, rfl, hd0, hr⟩ := hu2
          cases rs with
          | nil => simp only [RdT] at hr; subst hr; simpa [retD] using hd0
          | cons d1 rs =>
            have hr' := hr
            simp only [RdT] at hr
            obtain ⟨u1, r', rfl, hd1, hr⟩ := hr
            simp only [retD, Rd]
            refine ⟨(u0 :: u1 :: r').toArray, by simp, ?_⟩
            simp only [List.toList_toArray, RdT]
            exact ⟨u0, _, rfl, hd0, u1, r', rfl, hd1, hr⟩
      obtain ⟨ρ'', S'', g1, g2, g3⟩ := h1.2 ρ S w ρ' S' w' _ hS h3 h2.st hrd
      exact ⟨h2.defers, _, hrun, _, ρ'', S'', rfl, g1, g2, g3⟩
    · exact h1.elim
  cases e with
  | normal => exact fin h1
  | ret => exact fin h1
  | exit id => exact h1.elim
  | goto l => exact h1.elim
  | panic ch => exact h1.elim
  | outgrown => exact h1.elim

theorem callJ_of_vcg (hT : TblOk P T) (hm : P.follows .mixedOrders = true) {f : FuncId} {fn : Func} {c : Code} {ds : List D} {H H' : Heap} {d : D} (hf : P.funcs[f]? = some fn) (hb : fn.body = some c)
    (hname : (fn.name == "runtime.NumGoroutine") = false) (hok : codeOk fn.ntmps c = true) (hlen : ds.length ≤ fn.ntmps)
    (h : vcg P T fn.ntmps c (retQ T fn.results.toList fun d1 H1 => Fin ds H d1 H1 d H') (envOf 0 ds) H) : CallJ P f ds H d H' :=
  callJ_of_dw hT hf hb hname hlen (vcg_sound hT hm c _ _ _ hok h)

/-- nothing of the call's own is handed over -/
theorem fin_drop {ds : List D} {d : D} {H1 : Heap} (hn : Nameless d) : Fin ds [] d H1 d [] := by
  intro ρ0 S0 w0 ρ S w u hS0 hle hS hr
  have nl : ∀ ρ k, ¬ Live ρ [] k := fun ρ k ⟨b, blk, hb, _⟩ => by simp at hb
  refine ⟨ρ0, S, St.nil _ (fun k hk => (hS.sub k hk).1) hS.glob, ?_, Rd.move hn hr⟩
  exact ⟨Nat.le_refl _, fun _ _ => rfl, hle.S, hle.keep, fun k hk => (hle.new k hk).imp id fun h => .inr (h.resolve_left (nl _ k)), fun k hk => ⟨(hle.fix k hk).1, nl _ k⟩, hle.heap, hle.size, hle.os, hle.tape, hle.output⟩

/-- the blocks stay as they are -/
theorem fin_same {ds : List D} {d : D} {H H1 : Heap} : Fin ds H d H1 d H1 := fun ρ0 S0 w0 ρ S w u hS0 hle hS hr => ⟨ρ, S, hS, hle, hr⟩

/-- a pure function: what it hands back is given up whole -/
def SealTo (H1 : Heap) (d1 d : D) : Prop := match sealD H1 d1 with
  | some (e, c) => c ∧ e = d
  | none => False

theorem fin_seal {ds : List D} {d1 d : D} {H1 : Heap} (h : SealTo H1 d1 d) : Fin ds [] d1 H1 d [] := by
  intro ρ0 S0 w0 ρ S w u hS0 hle hS hr
  unfold SealTo at h
  split at h
  · rename_i e c hs
    obtain ⟨hc, rfl⟩ := h
    have nl : ∀ ρ k, ¬ Live ρ [] k := fun ρ k ⟨b, blk, hb, _⟩ => by simp at hb
    have hk : ∀ k, (S k ∨ Live ρ H1 k) → k < w.heap.size := fun k hk => by
      rcases hk with h | h
      · exact (hS.sub k h).1
      · exact hS.lt h
    refine ⟨ρ0, fun k => S k ∨ Live ρ H1 k, St.nil _ hk (hS.glob.mono (fun _ h => .inl h) fun _ _ => rfl), ?_, ?_⟩
    · exact ⟨Nat.le_refl _, fun _ _ => rfl, fun k hk => .inl (hle.S k hk), hle.keep, fun k hk => by
        rcases hk with h | h
        · exact hle.new k h
        · rcases Nat.lt_or_ge k w0.heap.size with h2 | h2
          · exact absurd h (hle.fix k ⟨h2, nl _ k⟩).2
          · exact .inr (.inr h2), fun k hk => ⟨(hle.fix k hk).1, nl _ k⟩, hle.heap, hle.size, hle.os, hle.tape, hle.output⟩
    · have := sealD_rd (S' := fun k => S k ∨ Live ρ H1 k) (H' := []) hS (fun k h => .inl h) (fun b blk hb hz => .inr ⟨b, blk, hb, hz, rfl⟩) d1 e c u hs hc hr
      have hn : Nameless e := by
        have key : ∀ u, Rd (ctx ρ (fun k => S k ∨ Live ρ H1 k) w []) e u → Nameless e := by
          intro u hu
          have nm : ∀ (d : D) (u : Value), Rd (ctx ρ (fun k => S k ∨ Live ρ H1 k) w []) d u → Nameless d := by
            intro d
            exact d.rec (motive_1 := fun d => ∀ u, Rd (ctx ρ (fun k => S k ∨ Live ρ H1 k) w []) d u → Nameless d)
              (motive_2 := fun ds => (∀ us, RdL (ctx ρ (fun k => S k ∨ Live ρ H1 k) w []) ds us → NamelessL ds) ∧ (∀ us, RdT (ctx ρ (fun k => S k ∨ Live ρ H1 k) w []) ds us → NamelessL ds))
              (fun x u _ => by simp only [Nameless])
              (fun n xs _ u h => by simp only [Rd] at h; simp only [Nameless]; exact h.1)
              (fun xs j _ u h => by simp only [Rd] at h; simp only [Nameless]; exact h.1)
              (fun b off n c u h => by cases c <;> simp only [Rd] at h <;> exact absurd h.1 (by simp))
              (fun b off u h => by simp only [Rd] at h; exact absurd h.1 (by simp))
              (fun xs ih u h => by simp only [Rd] at h; obtain ⟨us, _, h⟩ := h; simp only [Nameless]; exact ih.1 _ h)
              (fun xs ih u h => by simp only [Rd] at h; obtain ⟨us, _, h⟩ := h; simp only [Nameless]; exact ih.2 _ h)
              (fun t d ih u h => by simp only [Rd] at h; obtain ⟨x, _, h⟩ := h; simp only [Nameless]; exact ih _ h)
              (fun f k caps ih u h => by simp only [Rd] at h; obtain ⟨fs, us, _, _, h⟩ := h; simp only [Nameless]; exact ih.2 _ h)
              ⟨fun us _ => by simp only [NamelessL], fun us _ => by simp only [NamelessL]⟩
              (fun d ds ih1 ih2 => ⟨fun us h => by simp only [RdL] at h; obtain ⟨u, r, _, _, h1, h2⟩ := h; simp only [NamelessL]; exact ⟨ih1 _ h1, ih2.1 _ h2⟩,
                fun us h => by simp only [RdT] at h; obtain ⟨u, r, _, h1, h2⟩ := h; simp only [NamelessL]; exact ⟨ih1 _ h1, ih2.2 _ h2⟩⟩)
          exact nm e u hu
        exact key u this
      exact this.move hn
  · exact h.elim

theorem pureJ_of_vcg (hT : TblOk P T) (hm : P.follows .mixedOrders = true) {f : FuncId} {fn : Func} {c : Code} {ds : List D} {d : D} (hf : P.funcs[f]? = some fn) (hb : fn.body = some c)
    (hname : (fn.name == "runtime.NumGoroutine") = false) (hok : codeOk fn.ntmps c = true) (hlen : ds.length ≤ fn.ntmps) (h1 : NamelessL ds) (h2 : Nameless d)
    (h : vcg P T fn.ntmps c (retQ T fn.results.toList fun d1 H1 => SealTo H1 d1 d) (envOf 0 ds) []) : PureJ P f ds d := by
  refine PureJ.of_nil h1 h2 (callJ_of_vcg hT hm hf hb hname hok hlen ?_)
  have : (retQ T fn.results.toList fun d1 H1 => SealTo H1 d1 d) = (retQ T fn.results.toList fun d1 H1 => SealTo H1 d1 d) := rfl
  have mono : ∀ e env H, retQ T fn.results.toList (fun d1 H1 => SealTo H1 d1 d) e env H → retQ T fn.results.toList (fun d1 H1 => Fin ds [] d1 H1 d []) e env H := by
    intro e env H h
    cases e <;> simp only [retQ] at h ⊢
    all_goals first
      | exact h.elim
      | (split at h
         · exact ⟨h.1, fin_seal h.2⟩
         · exact h.elim)
  exact vcg_mono P T fn.ntmps c _ _ mono _ _ h
end
end Go.VD
