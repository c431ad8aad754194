import Derived.Test.YtfleadelfklenaaGreatDoorZGw6
import Derived.ProofKit
import Derived.OpenShut
import Derived.Carry
import Derived.ChangeSame
section
namespace Go.VD
set_option linter.unusedVariables false
set_option linter.unusedSimpArgs false
def resD (T : Tbl) (env : Env) (H : Heap) : List ResultVar → Option (List D × Prop)
  | [] => some ([], True)
  | .tmp t :: r => match env.lookup t, resD T env H r with
    | some d, some (ds, c) => some (d :: ds, c)
    | _, _ => none
  | .cell a ty :: r => match env.lookup a, resD T env H r with
    | some (.ptr b off), some (ds, c) => match blkAt H b, T ty with
      | some blk, some ti => some ((partD ti blk.cs off).1 :: ds, (partD ti blk.cs off).2 ∧ c)
      | _, _ => none
    | _, _ => none
def retD : List D → D
  | [d] => d
  | ds => .tup ds
def retQ (T : Tbl) (rs : List ResultVar) (K : D → Heap → Prop) : Exit → Env → Heap → Prop
  | .normal, env, H => match resD T env H rs with
    | some (ds, c) => c ∧ K (retD ds) H
    | none => False
  | .ret, env, H => match resD T env H rs with
    | some (ds, c) => c ∧ K (retD ds) H
    | none => False
  | _, _, _ => False
def envOf : Nat → List D → Env
  | _, [] => []
  | k, d :: ds => (k, d) :: envOf (k + 1) ds
def resOne (tmps : Array Value) : ResultVar → Sem Value
  | .tmp t => pure (tmps.getD t undef)
  | .cell a t => do loadVar t (← asAddr (tmps.getD a undef))
theorem results_eq (fn : Func) (tmps : Array Value) : results fn tmps = (do
    let vs ← fn.results.mapM (resOne tmps)
    pure (if h : vs.size = 1 then vs[0] else .tuple vs)) := by
  unfold results
  congr 2
section
variable {P : Program} {T : Tbl}
theorem envOf_rd {E : Ctx} : ∀ (ds : List D) (us : List Value) (k : Nat) (pre : List Value) (post : List Value), pre.length = k → RdT E ds us → ∀ t d, (envOf k ds).lookup t = some d → Rd E d ((pre ++ us ++ post).toArray.getD t undef)
  | [], us, k, pre, post, hk, hr, t, d, h => by simp [envOf] at h
  | d :: ds, us, k, pre, post, hk, hr, t, d', h => by
    simp only [RdT] at hr
    obtain ⟨u, r, rfl, hd, hr⟩ := hr
    simp only [envOf, List.lookup_cons] at h
    split at h
    · rename_i ht
      have ht : t = k := by simpa using ht
      injection h with h; subst h; subst ht
      have : (pre ++ u :: r ++ post).toArray.getD t undef = u := by
        simp [Array.getD_eq_getD_getElem?, hk, List.getElem?_append]
      rw [this]; exact hd
    · have := envOf_rd ds r (k + 1) (pre ++ [u]) post (by simp [hk]) hr t d' h
      simpa using this
theorem resD_run (hT : TblOk P T) {ρ : Nat → Nat × Nat} {S : Nat → Prop} {w : World} {H : Heap} {env : Env} {a : Act} (hS : St ρ S w H) (he : ∀ t d, env.lookup t = some d → Rd (ctx ρ S w H) d (a.tmps.getD t undef)) :
    ∀ (rs : List ResultVar) (ds : List D) (c : Prop), resD T env H rs = some (ds, c) → c →
      ∃ us : List Value, (rs.mapM (resOne a.tmps)).run P w = .ok us w ∧ RdT (ctx ρ S w H) ds us
  | [], ds, c, h, hc => by simp only [resD] at h; obtain ⟨rfl, rfl⟩ := pair_inj h; exact ⟨[], by simp, by simp [RdT]⟩
  | .tmp t :: r, ds, c, h, hc => by
    simp only [resD] at h
    split at h
    · rename_i d ds' c' h1 h2
      obtain ⟨rfl, rfl⟩ := pair_inj h
      obtain ⟨us, h3, h4⟩ := resD_run hT hS he r ds' _ h2 hc
      refine ⟨a.tmps.getD t undef :: us, ?_, ?_⟩
      · simp only [List.mapM_cons, resOne, Sem.run_bind, Sem.run_pure, Result.andThen_ok, h3]
      · simp only [RdT]; exact ⟨_, _, rfl, he t d h1, h4⟩
    · cases h
  | .cell x ty :: r, ds, c, h, hc => by
    simp only [resD] at h
    split at h
    · rename_i b off ds' c' h1 h2
      split at h
      · rename_i blk ti hb hty
        obtain ⟨rfl, rfl⟩ := pair_inj h
        obtain ⟨us, h3, h4⟩ := resD_run hT hS he r ds' _ h2 hc.2
        have hx := he x _ h1
        simp only [Rd] at hx
        obtain ⟨v, h5, h6⟩ := load_blk (P := P) hS (blkAt_some hb) (blkAt_ty hb) (hT.ok ty ti hty) hc.1
        refine ⟨v :: us, ?_, ?_⟩
        · simp only [List.mapM_cons, resOne, Sem.run_bind, Sem.run_pure, Result.andThen_ok, hx.2, asAddr, h5, h3]
        · simp only [RdT]; exact ⟨_, _, rfl, h6, h4⟩
      · cases h
    · cases h
def Fin (ds : List D) (H : Heap) (d1 : D) (H1 : Heap) (d : D) (H' : Heap) : Prop :=
  ∀ ρ0 S0 w0 ρ S w u, St ρ0 S0 w0 H → (ctx ρ0 S0 w0 H).le (ctx ρ S w H1) → St ρ S w H1 → Rd (ctx ρ S w H1) d1 u → ∃ ρ' S', St ρ' S' w H' ∧ (ctx ρ0 S0 w0 H).le (ctx ρ' S' w H') ∧ Rd (ctx ρ' S' w H') d u
theorem callable_of {f : FuncId} {fn : Func} {c : Code} (hf : P.funcs[f]? = some fn) (hb : fn.body = some c) (hname : (fn.name == "runtime.NumGoroutine") = false) : Callable P f := ⟨fn, hf, by simp [hb], hname⟩
theorem callJ_of_dw (hT : TblOk P T) {f : FuncId} {fn : Func} {c : Code} {ds : List D} {H H' : Heap} {d : D} (hf : P.funcs[f]? = some fn) (hb : fn.body = some c)
    (hname : (fn.name == "runtime.NumGoroutine") = false) (hlen : ds.length ≤ fn.ntmps)
    (h : DW P fn.ntmps c (retQ T fn.results.toList fun d1 H1 => Fin ds H d1 H1 d H') (envOf 0 ds) H) : CallJ P f ds H d H' := by
  refine ⟨callable_of hf hb hname, fun ρ S w vals hS hv => ?_⟩
  have hvl : vals.length = ds.length := by
    have : ∀ (ds : List D) (us : List Value), RdT (ctx ρ S w H) ds us → us.length = ds.length := by
      intro ds
      induction ds with
      | nil => intro us h; simp only [RdT] at h; simp [h]
      | cons d ds ih => intro us h; simp only [RdT] at h; obtain ⟨u, r, rfl, _, h⟩ := h; simp [ih r h]
    exact this ds vals hv
  refine calls_of_wp hf hb ?_
  have hinv : Inv fn.ntmps ρ S w H (envOf 0 ds) { tmps := vals.toArray ++ Array.replicate (fn.ntmps - vals.toArray.size) undef, defers := [] } := by
    refine ⟨hS, fun t d' ht => ?_, by simp; omega, rfl⟩
    have := envOf_rd ds vals 0 [] (List.replicate (fn.ntmps - vals.toArray.size) undef) rfl hv t d' ht
    have e : vals.toArray ++ Array.replicate (fn.ntmps - vals.toArray.size) undef = (vals ++ List.replicate (fn.ntmps - vals.toArray.size) undef).toArray := by
      apply Array.toList_inj.1; simp
    rw [e]
    simpa using this
  refine wp_mono (h ρ S w _ hinv) fun e a' w' ⟨env', H1, ρ', S', h1, h2, h3⟩ => ?_
  have fin : (match resD T env' H1 fn.results.toList with | some (ds', c) => c ∧ Fin ds H (retD ds') H1 d H' | none => False) →
      a'.defers = [] ∧ ∃ v, (results fn a'.tmps).run P w' = .ok v w' ∧ ∃ v' ρ' S', Ending.returned v = .returned v' ∧ St ρ' S' w' H' ∧ (ctx ρ S w H).le (ctx ρ' S' w' H') ∧ Rd (ctx ρ' S' w' H') d v' := by
    intro h1
    split at h1
    · rename_i rs c' hres
      obtain ⟨us, hu1, hu2⟩ := resD_run hT h2.st h2.env _ _ _ hres h1.1
      have hrun : (results fn a'.tmps).run P w' = .ok (if h : us.toArray.size = 1 then us.toArray[0] else .tuple us.toArray) w' := by
        rw [results_eq, Array.mapM_eq_mapM_toList]
        simp only [Sem.run_bind, Sem.run_map, hu1, Result.andThen_ok, Sem.run_pure]
      have hrd : Rd (ctx ρ' S' w' H1) (retD rs) (if h : us.toArray.size = 1 then us.toArray[0] else .tuple us.toArray) := by
        cases rs with
        | nil => simp only [RdT] at hu2; subst hu2; simp only [retD]; simp only [Rd]; exact ⟨#[], by simp, by simp [RdT]⟩
        | cons d0 rs =>
          simp only [RdT] at hu2
          obtain ⟨u0, r, rfl, hd0, hr⟩ := hu2
          cases rs with
          | nil => simp only [RdT] at hr; subst hr; simpa [retD] using hd0
          | cons d1 rs =>
            have hr' := hr
            simp only [RdT] at hr
            obtain ⟨u1, r', rfl, hd1, hr⟩ := hr
            simp only [retD, Rd]
            refine ⟨(u0 :: u1 :: r').toArray, by simp, ?_⟩
            simp only [List.toList_toArray, RdT]
            exact ⟨u0, _, rfl, hd0, u1, r', rfl, hd1, hr⟩
      obtain ⟨ρ'', S'', g1, g2, g3⟩ := h1.2 ρ S w ρ' S' w' _ hS h3 h2.st hrd
      exact ⟨h2.defers, _, hrun, _, ρ'', S'', rfl, g1, g2, g3⟩
    · exact h1.elim
  cases e with
  | normal => exact fin h1
  | ret => exact fin h1
  | exit id => exact h1.elim
  | goto l => exact h1.elim
  | panic ch => exact h1.elim
  | outgrown => exact h1.elim
theorem fin_drop {ds : List D} {d : D} {H1 : Heap} (hn : Nameless d) : Fin ds [] d H1 d [] := by
  intro ρ0 S0 w0 ρ S w u hS0 hle hS hr
  have nl : ∀ ρ k, ¬ Live ρ [] k := fun ρ k ⟨b, blk, hb, _⟩ => by simp at hb
  refine ⟨ρ0, S, St.nil _ (fun k hk => (hS.sub k hk).1) hS.glob, ?_, Rd.move hn hr⟩
  exact ⟨Nat.le_refl _, fun _ _ => rfl, hle.S, hle.keep, fun k hk => (hle.new k hk).imp id fun h => .inr (h.resolve_left (nl _ k)), fun k hk => ⟨(hle.fix k hk).1, nl _ k⟩, hle.heap, hle.size, hle.os, hle.tape, hle.output⟩
theorem fin_same {ds : List D} {d : D} {H H1 : Heap} : Fin ds H d H1 d H1 := fun ρ0 S0 w0 ρ S w u hS0 hle hS hr => ⟨ρ, S, hS, hle, hr⟩
def SealTo (H1 : Heap) (d1 d : D) : Prop := match sealD H1 d1 with
  | some (e, c) => c ∧ e = d
  | none => False
theorem fin_seal {ds : List D} {d1 d : D} {H1 : Heap} (h : SealTo H1 d1 d) : Fin ds [] d1 H1 d [] := by
  intro ρ0 S0 w0 ρ S w u hS0 hle hS hr
  unfold SealTo at h
  split at h
  · rename_i e c hs
    obtain ⟨hc, rfl⟩ := h
    have nl : ∀ ρ k, ¬ Live ρ [] k := fun ρ k ⟨b, blk, hb, _⟩ => by simp at hb
    have hk : ∀ k, (S k ∨ Live ρ H1 k) → k < w.heap.size := fun k hk => by
      rcases hk with h | h
      · exact (hS.sub k h).1
      · exact hS.lt h
    refine ⟨ρ0, fun k => S k ∨ Live ρ H1 k, St.nil _ hk (hS.glob.mono (fun _ h => .inl h) fun _ _ => rfl), ?_, ?_⟩
    · exact ⟨Nat.le_refl _, fun _ _ => rfl, fun k hk => .inl (hle.S k hk), hle.keep, fun k hk => by
        rcases hk with h | h
        · exact hle.new k h
        · rcases Nat.lt_or_ge k w0.heap.size with h2 | h2
          · exact absurd h (hle.fix k ⟨h2, nl _ k⟩).2
          · exact .inr (.inr h2), fun k hk => ⟨(hle.fix k hk).1, nl _ k⟩, hle.heap, hle.size, hle.os, hle.tape, hle.output⟩
    · have := sealD_rd (S' := fun k => S k ∨ Live ρ H1 k) (H' := []) hS (fun k h => .inl h) (fun b blk hb hz => .inr ⟨b, blk, hb, hz, rfl⟩) d1 e c u hs hc hr
      have hn : Nameless e := by
        have key : ∀ u, Rd (ctx ρ (fun k => S k ∨ Live ρ H1 k) w []) e u → Nameless e := by
          intro u hu
          have nm : ∀ (d : D) (u : Value), Rd (ctx ρ (fun k => S k ∨ Live ρ H1 k) w []) d u → Nameless d := by
            intro d
            exact d.rec (motive_1 := fun d => ∀ u, Rd (ctx ρ (fun k => S k ∨ Live ρ H1 k) w []) d u → Nameless d)
              (motive_2 := fun ds => (∀ us, RdL (ctx ρ (fun k => S k ∨ Live ρ H1 k) w []) ds us → NamelessL ds) ∧ (∀ us, RdT (ctx ρ (fun k => S k ∨ Live ρ H1 k) w []) ds us → NamelessL ds))
              (fun x u _ => by simp only [Nameless])
              (fun n xs _ u h => by simp only [Rd] at h; simp only [Nameless]; exact h.1)
              (fun xs j _ u h => by simp only [Rd] at h; simp only [Nameless]; exact h.1)
              (fun b off n c u h => by cases c <;> simp only [Rd] at h <;> exact absurd h.1 (by simp))
              (fun b off u h => by simp only [Rd] at h; exact absurd h.1 (by simp))
              (fun xs ih u h => by simp only [Rd] at h; obtain ⟨us, _, h⟩ := h; simp only [Nameless]; exact ih.1 _ h)
              (fun xs ih u h => by simp only [Rd] at h; obtain ⟨us, _, h⟩ := h; simp only [Nameless]; exact ih.2 _ h)
              (fun t d ih u h => by simp only [Rd] at h; obtain ⟨x, _, h⟩ := h; simp only [Nameless]; exact ih _ h)
              (fun f k caps ih u h => by simp only [Rd] at h; obtain ⟨fs, us, _, _, h⟩ := h; simp only [Nameless]; exact ih.2 _ h)
              ⟨fun us _ => by simp only [NamelessL], fun us _ => by simp only [NamelessL]⟩
              (fun d ds ih1 ih2 => ⟨fun us h => by simp only [RdL] at h; obtain ⟨u, r, _, _, h1, h2⟩ := h; simp only [NamelessL]; exact ⟨ih1 _ h1, ih2.1 _ h2⟩,
                fun us h => by simp only [RdT] at h; obtain ⟨u, r, _, h1, h2⟩ := h; simp only [NamelessL]; exact ⟨ih1 _ h1, ih2.2 _ h2⟩⟩)
          exact nm e u hu
        exact key u this
      exact this.move hn
  · exact h.elim
end
end Go.VD
end
section
namespace Go.VD
set_option linter.unusedVariables false
set_option linter.unusedSimpArgs false
inductive TC (T : Tbl) : TypeId → List D → Prop
  | bool {t : TypeId} {a b : Nat} {z : List Value} (h : T t = some ⟨.bool, a, b, z⟩) (x : Bool) : TC T t [.v (.bool x)]
  | int {t : TypeId} {k : IntKind} {a b : Nat} {z : List Value} (h : T t = some ⟨.int k, a, b, z⟩) (n : Int) (hn : (Lit.int k n).wf = true) : TC T t [.v (.int k n)]
  | str {t : TypeId} {a b : Nat} {z : List Value} (h : T t = some ⟨.str, a, b, z⟩) (s : ByteArray) (hs : s.size ≤ maxLen) : TC T t [.v (.string s)]
  | slice {t e : TypeId} {a b : Nat} {z : List Value} (h : T t = some ⟨.slice e, a, b, z⟩) (chunks : List (List D)) (hl : chunks.length ≤ maxLen) (hc : ∀ c ∈ chunks, TC T e c) : TC T t [.ro chunks.length chunks.flatten]
  | struct {t : TypeId} {fs : List (Nat × TypeId)} {a b : Nat} {z : List Value} (h : T t = some ⟨.struct fs, a, b, z⟩) (parts : List (List D)) (hl : parts.length = fs.length)
      (hp : ∀ (i : Nat) (p : List D) (f : Nat × TypeId), parts[i]? = some p → fs[i]? = some f → TC T f.2 p) : TC T t parts.flatten
  | arr {t e : TypeId} {n a b : Nat} {z : List Value} (h : T t = some ⟨.arr n e, a, b, z⟩) (chunks : List (List D)) (hl : chunks.length = n) (hc : ∀ c ∈ chunks, TC T e c) : TC T t chunks.flatten
def contig (T : Tbl) : List (Nat × TypeId) → Nat → Nat → Bool
  | [], off, size => off == size
  | (o, t) :: r, off, size => match T t with
    | some ti => o == off && contig T r (off + ti.size) size
    | none => false
def canRead (T : Tbl) : Nat → TypeId → Bool
  | 0, _ => false
  | n + 1, t => match T t with
    | some ⟨.bool, s, _, _⟩ => s == 1
    | some ⟨.int _, s, _, _⟩ => s == 1
    | some ⟨.str, s, _, _⟩ => s == 1
    | some ⟨.slice e, s, _, _⟩ => (s == 1 && (match T e with | some te => te.size != 0 | none => false)) && canRead T n e
    | some ⟨.struct fs, s, _, _⟩ => contig T fs 0 s && fs.all fun f => canRead T n f.2
    | some ⟨.arr m e, s, _, _⟩ => canRead T n e && (match T e with | some ti => s == m * ti.size | none => false)
    | _ => false
section
variable {H : Type} {enc : TypeId × Value → H} {P : Program} {T : Tbl}
theorem TiOk.cellsOf {t : TypeId} {ti : TI} (h : TiOk P t ti) : P.cellsOf t = ti.size := by
  obtain ⟨i, z, d, hi, _, h1, _⟩ := h.ex
  simp [Program.cellsOf, hi, h1]
theorem exists_list {α : Type} (p : Nat → α → Prop) : ∀ (n : Nat), (∀ i, i < n → ∃ x, p i x) → ∃ l : List α, l.length = n ∧ ∀ i x, l[i]? = some x → p i x
  | 0, _ => ⟨[], rfl, by simp⟩
  | n + 1, h => by
    obtain ⟨l, hl, hp⟩ := exists_list p n fun i hi => h i (by omega)
    obtain ⟨x, hx⟩ := h n (by omega)
    refine ⟨l ++ [x], by simp [hl], fun i y hy => ?_⟩
    rcases getElem?_snoc_cases hy with ⟨_, hy⟩ | ⟨rfl, rfl⟩
    · exact hp i y hy
    · rw [hl]; exact hx
theorem RdL.flatten {E : Ctx} : ∀ (ds : List (List D)) (us : List (List Value)), ds.length = us.length → (∀ (i : Nat) (d : List D) (u : List Value), ds[i]? = some d → us[i]? = some u → RdL E d u) → RdL E ds.flatten us.flatten
  | [], us, hl, _ => by
    have : us = [] := List.eq_nil_of_length_eq_zero hl.symm
    subst this; simp [RdL]
  | d :: ds, [], hl, _ => by simp at hl
  | d :: ds, u :: us, hl, h => by
    simp only [List.flatten_cons]
    exact (h 0 d u (by simp) (by simp)).append _ _ _ _ (RdL.flatten ds us (by simpa using hl) fun i d' u' hd hu => h (i + 1) d' u' (by simpa using hd) (by simpa using hu))
theorem NamelessL.flatten {ds : List (List D)} (h : ∀ d ∈ ds, NamelessL d) : NamelessL ds.flatten := NamelessL.iff.2 fun x hx => by
  obtain ⟨d, hd, hx⟩ := List.mem_flatten.1 hx
  exact NamelessL.iff.1 (h d hd) x hx
theorem RdAt.flatten {E : Ctx} {sz : Nat} : ∀ (ds : List (List D)) (ad : Addr) (k : Nat), (∀ d ∈ ds, d.length = sz) → (∀ (i : Nat) (d : List D), ds[i]? = some d → ∀ (j : Nat) (x : D), d[j]? = some x → ∃ u, E.w.cell? (ad.add ((k + i) * sz + j)) = some u ∧ u.oneCell' = true ∧ Rd E x u) →
    ∀ (j : Nat) (x : D), ds.flatten[j]? = some x → ∃ u, E.w.cell? (ad.add (k * sz + j)) = some u ∧ u.oneCell' = true ∧ Rd E x u
  | [], ad, k, _, _, j, x, hx => by simp at hx
  | d :: ds, ad, k, hl, h, j, x, hx => by
    have hd := hl d (by simp)
    rw [List.flatten_cons] at hx
    by_cases hj : j < d.length
    · rw [List.getElem?_append_left hj] at hx
      have := h 0 d (by simp) j x hx
      simpa using this
    · rw [List.getElem?_append_right (by omega)] at hx
      have := RdAt.flatten ds ad (k + 1) (fun d' hd' => hl d' (by simp [hd'])) (fun i d' hd' j x hx => by
        have := h (i + 1) d' (by simpa using hd') j x hx
        rwa [show k + (i + 1) = k + 1 + i by omega] at this) (j - d.length) x hx
      rw [Nat.add_mul, Nat.one_mul, show k * sz + sz + (j - d.length) = k * sz + j by omega] at this
      exact this
theorem trod_read (hT : TblOk P T) {ρ : Nat → Nat × Nat} {w : World} {base : Nat} {spare : Nat → Bool} {held : Bool} : ∀ (n : Nat) (fuel : Nat) (t : TypeId) (cs : List Value) (x : DataW H × List MemPlace), canRead T n t = true →
    DataW.trod enc P w base spare held fuel t cs = some x → ∃ ds, RdL (ctx ρ (fun k => k < w.heap.size) w []) ds cs ∧ TC T t ds ∧ NamelessL ds
  | 0, fuel, t, cs, x, h, _ => by simp [canRead] at h
  | n + 1, fuel, t, cs, x, hcan, h => by
    simp only [canRead] at hcan
    have scalar : ∀ (v : Value) (d : TypeDesc), P.underlying t = some d → cs = [v] → v.oneCell' = true → RdL (ctx ρ (fun k => k < w.heap.size) w []) [.v v] cs := by
      intro v d _ hcs ho
      subst hcs
      simp only [RdL]
      exact ⟨v, [], rfl, ho, by simp [Rd], rfl⟩
    split at hcan
    · rename_i sz b z ht
      have hu := (hT.ok t _ ht).bool rfl
      have : ∃ y, cs = [.bool y] := by
        cases fuel with
        | zero => simp [DataW.trod] at h
        | succ m => unfold DataW.trod at h; rw [hu] at h; split at h <;> simp_all
      obtain ⟨y, hcs⟩ := this
      exact ⟨[.v (.bool y)], scalar _ _ hu hcs rfl, .bool ht y, by simp [NamelessL, Nameless]⟩
    · rename_i k sz b z ht
      have hu := (hT.ok t _ ht).int rfl
      have : ∃ y, cs = [.int k y] ∧ (Lit.int k y).wf = true := by
        cases fuel with
        | zero => simp [DataW.trod] at h
        | succ m => unfold DataW.trod at h; rw [hu] at h; split at h <;> simp_all
      obtain ⟨y, hcs, hwf⟩ := this
      exact ⟨[.v (.int k y)], scalar _ _ hu hcs rfl, .int ht y hwf, by simp [NamelessL, Nameless]⟩
    · rename_i sz b z ht
      have hu := (hT.ok t _ ht).str rfl
      have : ∃ y, cs = [.string y] ∧ y.size ≤ maxLen := by
        cases fuel with
        | zero => simp [DataW.trod] at h
        | succ m => unfold DataW.trod at h; rw [hu] at h; split at h <;> simp_all
      obtain ⟨y, hcs, hwf⟩ := this
      exact ⟨[.v (.string y)], scalar _ _ hu hcs rfl, .str ht y hwf, by simp [NamelessL, Nameless]⟩
    · rename_i e sz b z ht
      simp only [Bool.and_eq_true] at hcan
      have hu := (hT.ok t _ ht).slice rfl
      rcases DataW.trod_slice hu h with ⟨hcs, _⟩ | ⟨a, len, cap, elems, rest, m, _, hcs, _, hb, hlc, hcm, hel, hread, _⟩
      · refine ⟨[.ro 0 []], ?_, .slice ht [] (by simp) (by simp), by simp [NamelessL, Nameless]⟩
        subst hcs
        simp only [RdL]
        exact ⟨_, [], rfl, rfl, by simp only [Rd]; exact ⟨by simp [NamelessL], none, 0, rfl, Nat.le_refl _, Nat.zero_le _, fun h => absurd h (by omega)⟩, rfl⟩
      · subst hcs
        have each : ∀ i, i < len → ∃ ds : List D, (∃ us, w.cells? base (a.add (i * P.cellsOf e)) (P.cellsOf e) = some us ∧ RdL (ctx ρ (fun k => k < w.heap.size) w []) ds us) ∧ TC T e ds ∧ NamelessL ds := by
          intro i hi
          have h1 := hread i hi
          rw [List.getElem?_eq_getElem (by omega)] at h1
          obtain ⟨us, h2, h3⟩ := Option.bind_eq_some_iff.1 h1
          obtain ⟨ds, h4, h5, h6⟩ := trod_read hT n m e us _ hcan.2 h3
          exact ⟨ds, ⟨us, h2, h4⟩, h5, h6⟩
        obtain ⟨chunks, hcl, hch⟩ := exists_list _ len each
        have cellsAt : ∀ i us, w.cells? base (a.add (i * P.cellsOf e)) (P.cellsOf e) = some us → us.length = P.cellsOf e ∧ ∀ j u, us[j]? = some u → w.cell? (a.add (i * P.cellsOf e + j)) = some u := by
          intro i us hus
          unfold World.cells? at hus
          split at hus
          · have hl := mapM_some_length hus
            rw [List.length_range] at hl
            refine ⟨hl, fun j u hj => ?_⟩
            have hjl : j < P.cellsOf e := by rw [← hl]; exact (List.getElem?_eq_some_iff.1 hj).1
            have := mapM_some_get hus j j (by simp [hjl])
            rw [add_add] at this
            rw [this, hj]
          · cases hus
        refine ⟨[.ro chunks.length chunks.flatten], ?_, .slice ht chunks (by omega) (fun c hc => ?_), ?_⟩
        · simp only [RdL]
          refine ⟨_, [], rfl, rfl, ?_, rfl⟩
          simp only [Rd]
          refine ⟨NamelessL.flatten fun d hd => ?_, some a, cap, by rw [hcl], by omega, hcm, fun h0 => ⟨a, rfl, ?_, ?_⟩⟩
          · obtain ⟨i, hi⟩ := List.getElem?_of_mem hd
            exact (hch i d hi).2.2
          · -- the row lies in the world
            have hpos : 0 < len := by omega
            obtain ⟨c0, hc0⟩ : ∃ c0, chunks[0]? = some c0 := ⟨_, List.getElem?_eq_getElem (by omega)⟩
            obtain ⟨⟨us, hus, hr⟩, htc, _⟩ := hch 0 c0 hc0
            by_cases hz : P.cellsOf e = 0
            · exfalso
              have h2 := hcan.1.2
              split at h2
              · rename_i te hte
                rw [(hT.ok e _ hte).cellsOf] at hz
                simp [hz] at h2
              · cases h2
            · obtain ⟨hl, hcell⟩ := cellsAt 0 us hus
              have : ∃ u, us[0]? = some u := ⟨_, List.getElem?_eq_getElem (by omega)⟩
              obtain ⟨u, hu0⟩ := this
              have := hcell 0 u hu0
              have hlt := World.block_lt_of_cell? w _ this
              rwa [block_add] at hlt
          · refine RdAt.mk _ _ _ fun j x hx => ?_
            have hlen : ∀ d ∈ chunks, d.length = P.cellsOf e := fun d hd => by
              obtain ⟨i, hi⟩ := List.getElem?_of_mem hd
              obtain ⟨⟨us, hus, hr⟩, _⟩ := hch i d hi
              rw [← hr.length, (cellsAt i us hus).1]
            have := RdAt.flatten (E := ctx ρ (fun k => k < w.heap.size) w []) chunks a 0 hlen (fun i d hd j x hx => by
              obtain ⟨⟨us, hus, hr⟩, _⟩ := hch i d hd
              obtain ⟨u, hu1, ho, hd1⟩ := hr.get _ _ j x hx
              exact ⟨u, by rw [Nat.zero_add]; exact (cellsAt i us hus).2 j u hu1, ho, hd1⟩) j x hx
            simpa using this
        · obtain ⟨i, hi⟩ := List.getElem?_of_mem hc
          exact (hch i c hi).2.1
        · simp only [NamelessL, Nameless, and_true]
          exact NamelessL.flatten fun d hd => by
            obtain ⟨i, hi⟩ := List.getElem?_of_mem hd
            exact (hch i d hi).2.2
    · rename_i fs sz b z ht
      simp only [Bool.and_eq_true] at hcan
      obtain ⟨F, hF, hm⟩ := (hT.ok t _ ht).struct rfl
      obtain ⟨xs, m, _, _, hcs, hxs, hread⟩ := DataW.trod_struct hF h
      rw [(hT.ok t _ ht).cellsOf] at hcs
      have hall := List.all_eq_true.1 hcan.2
      have hfl : fs.length = F.size := by rw [← hm]; simp
      have each : ∀ i, i < fs.length → ∃ ds : List D, (∀ f, fs[i]? = some f → RdL (ctx ρ (fun k => k < w.heap.size) w []) ds ((cs.drop f.1).take (P.cellsOf f.2)) ∧ TC T f.2 ds) ∧ NamelessL ds := by
        intro i hi
        have hFi : F[i]? = some (F[i]'(by omega)) := Array.getElem?_eq_getElem (by omega)
        have h1 := hread i _ hFi
        rw [List.getElem?_eq_getElem (by omega)] at h1
        have hfi : fs[i]? = some ((F[i]'(by omega)).offset, (F[i]'(by omega)).type) := by
          have e : (F.toList.map fun f => (f.offset, f.type))[i]? = fs[i]? := by rw [hm]
          rw [← e, List.getElem?_map, Array.getElem?_toList, hFi]; rfl
        obtain ⟨ds, h4, h5, h6⟩ := trod_read hT n m _ _ _ (hall _ (List.mem_of_getElem? hfi)) h1
        refine ⟨ds, fun f hf => ?_, h6⟩
        rw [hfi] at hf; injection hf with hf; subst hf
        exact ⟨h4, h5⟩
      obtain ⟨parts, hpl, hp⟩ := exists_list _ fs.length each
      refine ⟨parts.flatten, ?_, .struct ht parts hpl (fun i p f hpi hfi => ((hp i p hpi).1 f hfi).2), NamelessL.flatten fun d hd => ?_⟩
      · have hcont : ∀ (fs : List (Nat × TypeId)) (off : Nat), contig T fs off sz = true → (fs.map fun f => (cs.drop f.1).take (P.cellsOf f.2)).flatten = cs.drop off := by
          intro fs
          induction fs with
          | nil =>
            intro off hc
            simp only [contig, beq_iff_eq] at hc
            have hcl : cs.length = sz := hcs
            rw [List.drop_eq_nil_of_le (by rw [hcl, hc]; exact Nat.le_refl _)]; rfl
          | cons f fs ih =>
            intro off hc
            obtain ⟨o, ft⟩ := f
            simp only [contig] at hc
            split at hc
            · rename_i ti hti
              simp only [Bool.and_eq_true, beq_iff_eq] at hc
              obtain ⟨rfl, hc⟩ := hc
              rw [List.map_cons, List.flatten_cons, ih _ hc, (hT.ok ft _ hti).cellsOf]
              rw [← List.drop_drop]
              exact List.take_append_drop _ _
            · cases hc
        have h0 := hcont fs 0 hcan.1
        rw [List.drop_zero] at h0
        rw [← h0]
        refine RdL.flatten _ _ (by simp [hpl]) fun i d u hd hu => ?_
        rw [List.getElem?_map] at hu
        cases hfi : fs[i]? with
        | none => simp [hfi] at hu
        | some f =>
          simp only [hfi, Option.map_some, Option.some.injEq] at hu
          subst hu
          exact ((hp i d hd).1 f hfi).1
      · obtain ⟨i, hi⟩ := List.getElem?_of_mem hd
        exact (hp i d hi).2
    · rename_i k e sz b z ht
      simp only [Bool.and_eq_true] at hcan
      have hu := (hT.ok t _ ht).arr rfl
      obtain ⟨xs, m, _, _, hcs, hxs, hread⟩ := DataW.trod_array hu h
      rw [(hT.ok t _ ht).cellsOf] at hcs
      have each : ∀ i, i < k → ∃ ds : List D, (RdL (ctx ρ (fun k => k < w.heap.size) w []) ds ((cs.drop (i * P.cellsOf e)).take (P.cellsOf e)) ∧ TC T e ds) ∧ NamelessL ds := by
        intro i hi
        have h1 := hread i hi
        rw [List.getElem?_eq_getElem (by omega)] at h1
        obtain ⟨ds, h4, h5, h6⟩ := trod_read hT n m e _ _ hcan.1 h1
        exact ⟨ds, ⟨h4, h5⟩, h6⟩
      obtain ⟨chunks, hcl, hch⟩ := exists_list _ k each
      refine ⟨chunks.flatten, ?_, .arr ht chunks hcl (fun c hc => ?_), NamelessL.flatten fun d hd => ?_⟩
      · have hsz : sz = k * P.cellsOf e := by
          have h2 := hcan.2
          split at h2
          · rename_i te hte
            rw [(hT.ok e _ hte).cellsOf]; simpa using h2
          · cases h2
        have hcont : ∀ (m i : Nat), i + m = k → ((List.range' i m).map fun i => (cs.drop (i * P.cellsOf e)).take (P.cellsOf e)).flatten = cs.drop (i * P.cellsOf e) := by
          intro m
          induction m with
          | zero =>
            intro i hi
            have hik : i = k := by omega
            have : cs.length ≤ i * P.cellsOf e := by rw [hcs, hik]; exact Nat.le_of_eq hsz
            simp [List.drop_eq_nil_of_le this]
          | succ m ih =>
            intro i hi
            rw [List.range'_succ, List.map_cons, List.flatten_cons, ih (i + 1) (by omega)]
            rw [Nat.add_mul, Nat.one_mul, ← List.drop_drop]
            exact List.take_append_drop _ _
        have h0 := hcont k 0 (by omega)
        rw [Nat.zero_mul, List.drop_zero] at h0
        rw [← h0]
        refine RdL.flatten _ _ (by simp [hcl]) fun i d u hd hu => ?_
        have hik : i < k := by rw [← hcl]; exact (List.getElem?_eq_some_iff.1 hd).1
        rw [List.getElem?_map, List.getElem?_range' hik] at hu
        simp only [Option.map_some, Option.some.injEq] at hu
        subst hu
        have := (hch i d hd).1.1
        simpa using this
      · obtain ⟨i, hi⟩ := List.getElem?_of_mem hc
        exact (hch i c hi).1.2
      · obtain ⟨i, hi⟩ := List.getElem?_of_mem hd
        exact (hch i d hi).2
    · cases hcan
def readStep (T : Tbl) (L : List TypeId) (t : TypeId) : Bool := match T t with
    | some ⟨.bool, s, _, _⟩ => s == 1
    | some ⟨.int _, s, _, _⟩ => s == 1
    | some ⟨.str, s, _, _⟩ => s == 1
    | some ⟨.slice e, s, _, _⟩ => (s == 1 && (match T e with | some te => te.size != 0 | none => false)) && L.contains e
    | some ⟨.struct fs, s, _, _⟩ => contig T fs 0 s && fs.all fun f => L.contains f.2
    | some ⟨.arr m e, s, _, _⟩ => L.contains e && (match T e with | some ti => s == m * ti.size | none => false)
    | _ => false
def compsOf (T : Tbl) (t : TypeId) : List TypeId := match T t with
    | some ⟨.slice e, _, _, _⟩ => [e]
    | some ⟨.struct fs, _, _, _⟩ => fs.map (·.2)
    | some ⟨.arr _ e, _, _, _⟩ => [e]
    | _ => []
def closeT (T : Tbl) : Nat → List TypeId → List TypeId
  | 0, l => l
  | n + 1, l => closeT T n (l ++ ((l.flatMap (compsOf T)).eraseDups.filter fun t => !l.contains t))
def canRec (T : Tbl) (t : TypeId) : Bool := let L := closeT T 8 [t]; L.contains t && L.all (readStep T L)
def readable (T : Tbl) (t : TypeId) : Bool := canRead T 20 t || canRec T t
theorem trod_readR (hT : TblOk P T) {ρ : Nat → Nat × Nat} {w : World} {base : Nat} {spare : Nat → Bool} {held : Bool} {L : List TypeId} (hL : ∀ t ∈ L, readStep T L t = true) : ∀ (fuel : Nat) (t : TypeId) (cs : List Value) (x : DataW H × List MemPlace), L.contains t = true →
    DataW.trod enc P w base spare held fuel t cs = some x → ∃ ds, RdL (ctx ρ (fun k => k < w.heap.size) w []) ds cs ∧ TC T t ds ∧ NamelessL ds
  | fuel, t, cs, x, hmem, h => by
    have hcan := hL t (by simpa using hmem)
    unfold readStep at hcan
    have scalar : ∀ (v : Value) (d : TypeDesc), P.underlying t = some d → cs = [v] → v.oneCell' = true → RdL (ctx ρ (fun k => k < w.heap.size) w []) [.v v] cs := by
      intro v d _ hcs ho
      subst hcs
      simp only [RdL]
      exact ⟨v, [], rfl, ho, by simp [Rd], rfl⟩
    split at hcan
    · rename_i sz b z ht
      have hu := (hT.ok t _ ht).bool rfl
      have : ∃ y, cs = [.bool y] := by
        cases fuel with
        | zero => simp [DataW.trod] at h
        | succ m => unfold DataW.trod at h; rw [hu] at h; split at h <;> simp_all
      obtain ⟨y, hcs⟩ := this
      exact ⟨[.v (.bool y)], scalar _ _ hu hcs rfl, .bool ht y, by simp [NamelessL, Nameless]⟩
    · rename_i k sz b z ht
      have hu := (hT.ok t _ ht).int rfl
      have : ∃ y, cs = [.int k y] ∧ (Lit.int k y).wf = true := by
        cases fuel with
        | zero => simp [DataW.trod] at h
        | succ m => unfold DataW.trod at h; rw [hu] at h; split at h <;> simp_all
      obtain ⟨y, hcs, hwf⟩ := this
      exact ⟨[.v (.int k y)], scalar _ _ hu hcs rfl, .int ht y hwf, by simp [NamelessL, Nameless]⟩
    · rename_i sz b z ht
      have hu := (hT.ok t _ ht).str rfl
      have : ∃ y, cs = [.string y] ∧ y.size ≤ maxLen := by
        cases fuel with
        | zero => simp [DataW.trod] at h
        | succ m => unfold DataW.trod at h; rw [hu] at h; split at h <;> simp_all
      obtain ⟨y, hcs, hwf⟩ := this
      exact ⟨[.v (.string y)], scalar _ _ hu hcs rfl, .str ht y hwf, by simp [NamelessL, Nameless]⟩
    · rename_i e sz b z ht
      simp only [Bool.and_eq_true] at hcan
      have hu := (hT.ok t _ ht).slice rfl
      rcases DataW.trod_slice hu h with ⟨hcs, _⟩ | ⟨a, len, cap, elems, rest, m, hfu, hcs, _, hb, hlc, hcm, hel, hread, _⟩
      · refine ⟨[.ro 0 []], ?_, .slice ht [] (by simp) (by simp), by simp [NamelessL, Nameless]⟩
        subst hcs
        simp only [RdL]
        exact ⟨_, [], rfl, rfl, by simp only [Rd]; exact ⟨by simp [NamelessL], none, 0, rfl, Nat.le_refl _, Nat.zero_le _, fun h => absurd h (by omega)⟩, rfl⟩
      · subst hcs
        have each : ∀ i, i < len → ∃ ds : List D, (∃ us, w.cells? base (a.add (i * P.cellsOf e)) (P.cellsOf e) = some us ∧ RdL (ctx ρ (fun k => k < w.heap.size) w []) ds us) ∧ TC T e ds ∧ NamelessL ds := by
          intro i hi
          have h1 := hread i hi
          rw [List.getElem?_eq_getElem (by omega)] at h1
          obtain ⟨us, h2, h3⟩ := Option.bind_eq_some_iff.1 h1
          obtain ⟨ds, h4, h5, h6⟩ := trod_readR hT hL m e us _ hcan.2 h3
          exact ⟨ds, ⟨us, h2, h4⟩, h5, h6⟩
        obtain ⟨chunks, hcl, hch⟩ := exists_list _ len each
        have cellsAt : ∀ i us, w.cells? base (a.add (i * P.cellsOf e)) (P.cellsOf e) = some us → us.length = P.cellsOf e ∧ ∀ j u, us[j]? = some u → w.cell? (a.add (i * P.cellsOf e + j)) = some u := by
          intro i us hus
          unfold World.cells? at hus
          split at hus
          · have hl := mapM_some_length hus
            rw [List.length_range] at hl
            refine ⟨hl, fun j u hj => ?_⟩
            have hjl : j < P.cellsOf e := by rw [← hl]; exact (List.getElem?_eq_some_iff.1 hj).1
            have := mapM_some_get hus j j (by simp [hjl])
            rw [add_add] at this
            rw [this, hj]
          · cases hus
        refine ⟨[.ro chunks.length chunks.flatten], ?_, .slice ht chunks (by omega) (fun c hc => ?_), ?_⟩
        · simp only [RdL]
          refine ⟨_, [], rfl, rfl, ?_, rfl⟩
          simp only [Rd]
          refine ⟨NamelessL.flatten fun d hd => ?_, some a, cap, by rw [hcl], by omega, hcm, fun h0 => ⟨a, rfl, ?_, ?_⟩⟩
          · obtain ⟨i, hi⟩ := List.getElem?_of_mem hd
            exact (hch i d hi).2.2
          · -- the row lies in the world
            have hpos : 0 < len := by omega
            obtain ⟨c0, hc0⟩ : ∃ c0, chunks[0]? = some c0 := ⟨_, List.getElem?_eq_getElem (by omega)⟩
            obtain ⟨⟨us, hus, hr⟩, htc, _⟩ := hch 0 c0 hc0
            by_cases hz : P.cellsOf e = 0
            · exfalso
              have h2 := hcan.1.2
              split at h2
              · rename_i te hte
                rw [(hT.ok e _ hte).cellsOf] at hz
                simp [hz] at h2
              · cases h2
            · obtain ⟨hl, hcell⟩ := cellsAt 0 us hus
              have : ∃ u, us[0]? = some u := ⟨_, List.getElem?_eq_getElem (by omega)⟩
              obtain ⟨u, hu0⟩ := this
              have := hcell 0 u hu0
              have hlt := World.block_lt_of_cell? w _ this
              rwa [block_add] at hlt
          · refine RdAt.mk _ _ _ fun j x hx => ?_
            have hlen : ∀ d ∈ chunks, d.length = P.cellsOf e := fun d hd => by
              obtain ⟨i, hi⟩ := List.getElem?_of_mem hd
              obtain ⟨⟨us, hus, hr⟩, _⟩ := hch i d hi
              rw [← hr.length, (cellsAt i us hus).1]
            have := RdAt.flatten (E := ctx ρ (fun k => k < w.heap.size) w []) chunks a 0 hlen (fun i d hd j x hx => by
              obtain ⟨⟨us, hus, hr⟩, _⟩ := hch i d hd
              obtain ⟨u, hu1, ho, hd1⟩ := hr.get _ _ j x hx
              exact ⟨u, by rw [Nat.zero_add]; exact (cellsAt i us hus).2 j u hu1, ho, hd1⟩) j x hx
            simpa using this
        · obtain ⟨i, hi⟩ := List.getElem?_of_mem hc
          exact (hch i c hi).2.1
        · simp only [NamelessL, Nameless, and_true]
          exact NamelessL.flatten fun d hd => by
            obtain ⟨i, hi⟩ := List.getElem?_of_mem hd
            exact (hch i d hi).2.2
    · rename_i fs sz b z ht
      simp only [Bool.and_eq_true] at hcan
      obtain ⟨F, hF, hm⟩ := (hT.ok t _ ht).struct rfl
      obtain ⟨xs, m, hfu, _, hcs, hxs, hread⟩ := DataW.trod_struct hF h
      rw [(hT.ok t _ ht).cellsOf] at hcs
      have hall := List.all_eq_true.1 hcan.2
      have hfl : fs.length = F.size := by rw [← hm]; simp
      have each : ∀ i, i < fs.length → ∃ ds : List D, (∀ f, fs[i]? = some f → RdL (ctx ρ (fun k => k < w.heap.size) w []) ds ((cs.drop f.1).take (P.cellsOf f.2)) ∧ TC T f.2 ds) ∧ NamelessL ds := by
        intro i hi
        have hFi : F[i]? = some (F[i]'(by omega)) := Array.getElem?_eq_getElem (by omega)
        have h1 := hread i _ hFi
        rw [List.getElem?_eq_getElem (by omega)] at h1
        have hfi : fs[i]? = some ((F[i]'(by omega)).offset, (F[i]'(by omega)).type) := by
          have e : (F.toList.map fun f => (f.offset, f.type))[i]? = fs[i]? := by rw [hm]
          rw [← e, List.getElem?_map, Array.getElem?_toList, hFi]; rfl
        obtain ⟨ds, h4, h5, h6⟩ := trod_readR hT hL m _ _ _ (hall _ (List.mem_of_getElem? hfi)) h1
        refine ⟨ds, fun f hf => ?_, h6⟩
        rw [hfi] at hf; injection hf with hf; subst hf
        exact ⟨h4, h5⟩
      obtain ⟨parts, hpl, hp⟩ := exists_list _ fs.length each
      refine ⟨parts.flatten, ?_, .struct ht parts hpl (fun i p f hpi hfi => ((hp i p hpi).1 f hfi).2), NamelessL.flatten fun d hd => ?_⟩
      · have hcont : ∀ (fs : List (Nat × TypeId)) (off : Nat), contig T fs off sz = true → (fs.map fun f => (cs.drop f.1).take (P.cellsOf f.2)).flatten = cs.drop off := by
          intro fs
          induction fs with
          | nil =>
            intro off hc
            simp only [contig, beq_iff_eq] at hc
            have hcl : cs.length = sz := hcs
            rw [List.drop_eq_nil_of_le (by rw [hcl, hc]; exact Nat.le_refl _)]; rfl
          | cons f fs ih =>
            intro off hc
            obtain ⟨o, ft⟩ := f
            simp only [contig] at hc
            split at hc
            · rename_i ti hti
              simp only [Bool.and_eq_true, beq_iff_eq] at hc
              obtain ⟨rfl, hc⟩ := hc
              rw [List.map_cons, List.flatten_cons, ih _ hc, (hT.ok ft _ hti).cellsOf]
              rw [← List.drop_drop]
              exact List.take_append_drop _ _
            · cases hc
        have h0 := hcont fs 0 hcan.1
        rw [List.drop_zero] at h0
        rw [← h0]
        refine RdL.flatten _ _ (by simp [hpl]) fun i d u hd hu => ?_
        rw [List.getElem?_map] at hu
        cases hfi : fs[i]? with
        | none => simp [hfi] at hu
        | some f =>
          simp only [hfi, Option.map_some, Option.some.injEq] at hu
          subst hu
          exact ((hp i d hd).1 f hfi).1
      · obtain ⟨i, hi⟩ := List.getElem?_of_mem hd
        exact (hp i d hi).2
    · rename_i k e sz b z ht
      simp only [Bool.and_eq_true] at hcan
      have hu := (hT.ok t _ ht).arr rfl
      obtain ⟨xs, m, hfu, _, hcs, hxs, hread⟩ := DataW.trod_array hu h
      rw [(hT.ok t _ ht).cellsOf] at hcs
      have each : ∀ i, i < k → ∃ ds : List D, (RdL (ctx ρ (fun k => k < w.heap.size) w []) ds ((cs.drop (i * P.cellsOf e)).take (P.cellsOf e)) ∧ TC T e ds) ∧ NamelessL ds := by
        intro i hi
        have h1 := hread i hi
        rw [List.getElem?_eq_getElem (by omega)] at h1
        obtain ⟨ds, h4, h5, h6⟩ := trod_readR hT hL m e _ _ hcan.1 h1
        exact ⟨ds, ⟨h4, h5⟩, h6⟩
      obtain ⟨chunks, hcl, hch⟩ := exists_list _ k each
      refine ⟨chunks.flatten, ?_, .arr ht chunks hcl (fun c hc => ?_), NamelessL.flatten fun d hd => ?_⟩
      · have hsz : sz = k * P.cellsOf e := by
          have h2 := hcan.2
          split at h2
          · rename_i te hte
            rw [(hT.ok e _ hte).cellsOf]; simpa using h2
          · cases h2
        have hcont : ∀ (m i : Nat), i + m = k → ((List.range' i m).map fun i => (cs.drop (i * P.cellsOf e)).take (P.cellsOf e)).flatten = cs.drop (i * P.cellsOf e) := by
          intro m
          induction m with
          | zero =>
            intro i hi
            have hik : i = k := by omega
            have : cs.length ≤ i * P.cellsOf e := by rw [hcs, hik]; exact Nat.le_of_eq hsz
            simp [List.drop_eq_nil_of_le this]
          | succ m ih =>
            intro i hi
            rw [List.range'_succ, List.map_cons, List.flatten_cons, ih (i + 1) (by omega)]
            rw [Nat.add_mul, Nat.one_mul, ← List.drop_drop]
            exact List.take_append_drop _ _
        have h0 := hcont k 0 (by omega)
        rw [Nat.zero_mul, List.drop_zero] at h0
        rw [← h0]
        refine RdL.flatten _ _ (by simp [hcl]) fun i d u hd hu => ?_
        have hik : i < k := by rw [← hcl]; exact (List.getElem?_eq_some_iff.1 hd).1
        rw [List.getElem?_map, List.getElem?_range' hik] at hu
        simp only [Option.map_some, Option.some.injEq] at hu
        subst hu
        have := (hch i d hd).1.1
        simpa using this
      · obtain ⟨i, hi⟩ := List.getElem?_of_mem hc
        exact (hch i c hi).1.2
      · obtain ⟨i, hi⟩ := List.getElem?_of_mem hd
        exact (hch i d hi).2
    · cases hcan
termination_by fuel => fuel
decreasing_by all_goals omega
theorem trod_readable (hT : TblOk P T) {ρ : Nat → Nat × Nat} {w : World} {base : Nat} {spare : Nat → Bool} {held : Bool} {fuel : Nat} {t : TypeId} {cs : List Value} {x : DataW H × List MemPlace} (hr : readable T t = true)
    (h : DataW.trod enc P w base spare held fuel t cs = some x) : ∃ ds, RdL (ctx ρ (fun k => k < w.heap.size) w []) ds cs ∧ TC T t ds ∧ NamelessL ds := by
  unfold readable at hr
  rw [Bool.or_eq_true] at hr
  rcases hr with hr | hr
  · exact trod_read hT 20 fuel t cs x hr h
  · unfold canRec at hr
    simp only [Bool.and_eq_true] at hr
    exact trod_readR hT (fun t ht => List.all_eq_true.1 hr.2 t ht) fuel t cs x hr.1 h
end
end Go.VD
end
section
namespace Go.VD
open Go.ChangeShapes Go.WideShapes Go.ChangeAt Go.RowKit
set_option linter.unusedVariables false
set_option linter.unusedSimpArgs false
def TArgs (T : Tbl) : List TypeId → List D → Prop
  | [], ds => ds = []
  | t :: ts, ds => ∃ d r, ds = d :: r ∧ (∃ ti cs, T t = some ti ∧ TC T t cs ∧ d = (if ti.td.isAgg then .agg cs else cs.headD default)) ∧ TArgs T ts r
section
variable {H : Type} {enc : TypeId × Value → H} {P : Program} {T : Tbl}
theorem post_below {f : Func} {s : ChangeSpec} {apart fresh handsOn again : Bool} {W W' : World} {args : Array Value} {v : Value} {ds gs : List (DataW H)} {before pa pv : List MemPlace}
    (hW : DataW.Whole enc P f.params.toList s.vars apart W args.toList ds gs before)
    (hres : ∀ (b : Nat) (sp : Nat → Bool) (hd : Bool), DataW.TrodAll enc P W' b sp hd f.resultTypes.toList (v.resultList f.resultTypes.size) (s.fn H (ds ++ gs)).results [])
    (hargs : ∀ sp : Nat → Bool, (∀ p ∈ before, sp p.block = true) → DataW.TrodAll enc P W' 0 sp true f.params.toList args.toList (s.fn H (ds ++ gs)).args pa)
    (hvars : ∀ sp : Nat → Bool, (∀ p ∈ before, sp p.block = true) → DataW.TrodVars enc P W' sp s.vars (s.fn H (ds ++ gs)).vars pv)
    (hps : before = pa ++ pv) (hb : Below W.heap.size W W')
    (hok : ∀ (j : Nat) (t : TypeId) (r : Value), f.resultTypes[j]? = some t → (v.resultList f.resultTypes.size)[j]? = some r → Value.okWide P W' .any 0 t r) :
    s.post enc P f apart fresh handsOn again W args v W' := by
  have hlt : ∀ p ∈ before, p.block < W.heap.size := fun p hp => hW.lt p hp
  have hold : ∀ p ∈ before, (fun b => decide (b < W.heap.size)) p.block = true := fun p hp => by simpa using hlt p hp
  refine ⟨ds, gs, before, [], pa, pv, hW, hres _ _ _, hargs _ hold, hvars _ hold, World.keptBut_mono (fun p hp => ⟨hp, ?_⟩) (hb.frame (· ∈ before)), fun _ => ?_⟩
  · rw [hps, List.mem_append] at hp
    exact Or.inr hp
  · obtain ⟨_, _, _, _, _, hz, hn⟩ := hW
    refine ⟨hok, _, _, ([] ++ pa) ++ pv, ⟨[] ++ pa, pv, trodAll_append (hargs _ (fun _ _ => rfl)) (hres _ _ _), hvars _ (fun _ _ => rfl), rfl, ?_, ?_⟩, ?_⟩
    · intro b off hp
      have hin : MemPlace.cell b off ∈ before := by rw [hps]; simpa using hp
      rw [hb.frozen (hlt _ hin)]
      exact hz b off hin
    · intro ha
      have := hn ha
      rw [hps] at this
      simpa using this
    · intro p hp _
      rw [hps]
      simpa using hp
theorem trodAll_again (hl : laidOutB P = true) {W W' : World} (hb : Below W.heap.size W W') : ∀ (ts : List TypeId) (vs : List Value) (ds : List (DataW H)) (ps : List MemPlace), (∀ t ∈ ts, P.readableRec t = true ∧ t < P.types.size) →
    DataW.TrodAll enc P W 0 (fun _ => true) true ts vs ds ps → ∀ sp : Nat → Bool, (∀ p ∈ ps, p.block < W.heap.size) → (∀ p ∈ ps, sp p.block = true) → DataW.TrodAll enc P W' 0 sp true ts vs ds ps
  | [], vs, ds, ps, _, h, sp, hlt, hsp => by
    cases vs <;> cases ds <;> simp_all [DataW.TrodAll]
  | t :: ts, vs, ds, ps, ht, h, sp, hlt, hsp => by
    obtain ⟨v, vs', d, ds', p, q, rfl, rfl, rfl, h1, h2⟩ := trodAll_cons h
    obtain ⟨hr, hrow⟩ := ht t (by simp)
    refine ⟨p, q, WideElems.Trod_stays hl hr hrow h1 (fun x hx => hb.same (hlt x (by simp [hx]))) (fun x hx => hsp x (by simp [hx])), trodAll_again hl hb ts vs' ds' q (fun t ht' => ht t (by simp [ht'])) h2 sp (fun x hx => hlt x (by simp [hx])) (fun x hx => hsp x (by simp [hx])), rfl⟩
theorem args_read (hT : TblOk P T) {ρ : Nat → Nat × Nat} {W : World} : ∀ (ts : List TypeId) (vs : List Value) (ds : List (DataW H)) (ps : List MemPlace), (∀ t ∈ ts, readable T t = true) →
    (∀ (j : Nat) t v, ts[j]? = some t → vs[j]? = some v → ∃ base, Value.okWide P W .any base t v) → DataW.TrodAll enc P W 0 (fun _ => true) true ts vs ds ps →
    ∃ es, TArgs T ts es ∧ RdT (ctx ρ (fun k => k < W.heap.size) W []) es vs
  | [], vs, ds, ps, _, _, h => by
    cases vs <;> cases ds <;> simp_all [DataW.TrodAll]
    exact ⟨[], by simp [TArgs], by simp [RdT]⟩
  | t :: ts, vs, ds, ps, hcan, hok, h => by
    obtain ⟨v, vs', d, ds', p, q, rfl, rfl, rfl, ⟨fuel, h1⟩, h2⟩ := trodAll_cons h
    obtain ⟨es, he1, he2⟩ := args_read hT (ρ := ρ) ts vs' ds' q (fun t ht => hcan t (by simp [ht])) (fun j t' v' hj hv => hok (j + 1) t' v' (by simpa using hj) (by simpa using hv)) h2
    obtain ⟨base, hv⟩ := hok 0 t v (by simp) (by simp)
    have hc := hcan t (by simp)
    obtain ⟨cs, hr, htc, hn⟩ := trod_readable hT (ρ := ρ) hc h1
    have key : ∃ ti, T t = some ti ∧ Rd (ctx ρ (fun k => k < W.heap.size) W []) (if ti.td.isAgg then .agg cs else cs.headD default) v := by
      have one : ∀ (ti : TI) (e : D), T t = some ti → ti.td.isAgg = false → cs = [e] → v.cells = #[v] → ∃ ti, T t = some ti ∧ Rd (ctx ρ (fun k => k < W.heap.size) W []) (if ti.td.isAgg then .agg cs else cs.headD default) v := by
        intro ti e ht hag hcs hv
        refine ⟨ti, ht, ?_⟩
        rw [hag, hcs]
        rw [hv, hcs] at hr
        simp only [RdL] at hr
        obtain ⟨u, r, hu, _, hd, _⟩ := hr
        simp only [List.cons.injEq] at hu
        obtain ⟨rfl, _⟩ := hu
        simpa using hd
      cases htc with
      | bool ht x => obtain ⟨b, rfl⟩ := okWide_bool ((hT.ok t _ ht).bool rfl) hv; exact one _ _ ht rfl rfl rfl
      | int ht n hn => obtain ⟨b, rfl⟩ := okWide_int ((hT.ok t _ ht).int rfl) hv; exact one _ _ ht rfl rfl rfl
      | str ht s hs => obtain ⟨b, rfl⟩ := okWide_string ((hT.ok t _ ht).str rfl) hv; exact one _ _ ht rfl rfl rfl
      | slice ht chunks hl hcc => obtain ⟨a, n, c, rfl⟩ := okWide_slice ((hT.ok t _ ht).slice rfl) hv; exact one _ _ ht rfl rfl rfl
      | struct ht parts hl hp =>
        obtain ⟨F, hF, _⟩ := (hT.ok t _ ht).struct rfl
        obtain ⟨us, rfl, _⟩ := okWide_struct hF hv
        refine ⟨_, ht, ?_⟩
        simp only [TD.isAgg, if_true, Rd]
        exact ⟨us, rfl, hr⟩
      | arr ht chunks hl hcc =>
        have hu := (hT.ok t _ ht).arr rfl
        have : ∃ us, v = .agg us := by
          simp only [Value.okWide, hu] at hv
          obtain ⟨us, e, _⟩ := hv
          exact ⟨us, e⟩
        obtain ⟨us, rfl⟩ := this
        refine ⟨_, ht, ?_⟩
        simp only [TD.isAgg, if_true, Rd]
        exact ⟨us, rfl, hr⟩
    obtain ⟨ti, hti, hrd⟩ := key
    refine ⟨(if ti.td.isAgg then .agg cs else cs.headD default) :: es, ?_, ?_⟩
    · simp only [TArgs]; exact ⟨_, es, rfl, ⟨ti, cs, hti, htc, rfl⟩, he1⟩
    · simp only [RdT]; exact ⟨v, vs', rfl, hrd, he2⟩
theorem law_contract {f : FuncId} {fn : Func} {s : ChangeSpec} {tb : TypeId} (hT : TblOk P T) (hl : laidOutB P = true) (hparams : ∀ t ∈ fn.params.toList, P.readableRec t = true ∧ t < P.types.size ∧ readable T t = true)
    (hres : fn.resultTypes = #[tb]) (htb : P.underlying tb = some .bool) (hvars : s.vars = [])
    (hspec : ∀ (ds : List (DataW H)), ds.length = fn.params.size → (s.fn H ds).results = [.lit (.bool true)] ∧ (s.fn H ds).args = ds ∧ (s.fn H ds).vars = [])
    (law : ∀ es, TArgs T fn.params.toList es → PureJ P f es (.v (.bool true)))
    (W : World) (hG : GOK (fun k => k < W.heap.size) W) (base : Nat) (args : Array Value) (ds gs : List (DataW H)) (before : List MemPlace) (hval : ∀ (j : Nat) t v, fn.params[j]? = some t → args[j]? = some v → Value.okWide P W .any base t v)
    (hW : DataW.Whole enc P fn.params.toList s.vars false W args.toList ds gs before) :
    Calls P f args W fun e W' => ∃ v, e = .returned v ∧ s.post enc P fn false true false false W args v W' := by
  have hW' := hW
  obtain ⟨p, q, hA, hV, hpq, hfz, hnd⟩ := hW
  rw [hvars] at hV
  have hg : gs = [] ∧ q = [] := by
    cases gs <;> simp_all [DataW.TrodVars]
  obtain ⟨rfl, rfl⟩ := hg
  rw [List.append_nil] at hpq
  subst hpq
  obtain ⟨es, he1, he2⟩ := args_read hT (ρ := fun _ => (0, 0)) fn.params.toList args.toList ds before (fun t ht => (hparams t ht).2.2) (fun j t v hj hv => ⟨base, hval j t v (by simpa using hj) (by simpa using hv)⟩) hA
  have hlen : ds.length = fn.params.size := by
    have : ∀ (ts : List TypeId) (vs : List Value) (ds : List (DataW H)) (ps : List MemPlace), DataW.TrodAll enc P W 0 (fun _ => true) true ts vs ds ps → ds.length = ts.length := by
      intro ts
      induction ts with
      | nil => intro vs ds ps h; cases vs <;> cases ds <;> simp_all [DataW.TrodAll]
      | cons t ts ih =>
        intro vs ds ps h
        obtain ⟨v, vs', d, ds', p, q, rfl, rfl, rfl, h1, h2⟩ := trodAll_cons h
        simp [ih _ _ _ h2]
    have := this _ _ _ _ hA
    simpa using this
  obtain ⟨hs1, hs2, hs3⟩ := hspec ds hlen
  have hcall := (law es he1).call (fun k => k < W.heap.size) W args.toList (fun _ h => h) hG he2
  rw [show args.toList.toArray = args from by simp] at hcall
  refine hcall.mono fun e W' ⟨v, S', he, hgr, _, _, _, hr⟩ => ?_
  simp only [Rd] at hr
  subst hr
  have hb : Below W.heap.size W W' := ⟨hgr.os, hgr.tape, hgr.output, hgr.size, hgr.heap⟩
  refine ⟨_, he, post_below (pa := before) (pv := []) hW' (fun b sp hd => ?_) (fun sp hsp => ?_) (fun sp _ => ?_) (by simp) hb (ok_one hres rfl (okWide_bool_mk htb _))⟩
  · rw [List.append_nil, hs1, hres]
    exact trodAll_cons_mk (shut_bool htb _) trodAll_mk0
  · rw [List.append_nil, hs2]
    exact trodAll_again hl hb _ _ _ _ (fun t ht => ⟨(hparams t ht).1, (hparams t ht).2.1⟩) hA sp (fun p hp => hW'.lt p hp) hsp
  · rw [List.append_nil, hs3, hvars]; rfl
end
end Go.VD
end
section
namespace Go.VD
set_option linter.unusedVariables false
set_option linter.unusedSimpArgs false
def u32s (xs : List Nat) : List D := xs.map fun (x : Nat) => D.v (.int .u32 (x : Int))
theorem u32s_nameless (xs : List Nat) : NamelessL (u32s xs) := NamelessL.map _ (fun _ => by simp [Nameless]) xs
def ints (k : IntKind) (xs : List Int) : List D := xs.map fun x => D.v (.int k x)
theorem namelessL_ints (k : IntKind) (xs : List Int) : NamelessL (ints k xs) := NamelessL.map _ (fun _ => by simp [Nameless]) xs
theorem wrap_i64_of {n : Int} (h1 : -9223372036854775808 ≤ n) (h2 : n < 9223372036854775808) : IntKind.i64.wrap n = n := by
  rw [IntKind.wrap_i64]; omega
end Go.VD
end
section
namespace Go.VD
set_option linter.unusedVariables false
set_option linter.unusedSimpArgs false
def pickB : Option D → Option D → Option D → Bool
  | some (.v (.bool x)), some (.v (.bool a)), some (.v (.bool b)) => true
  | some (.v (.bool x)), some da, some db => true
  | some (.v (.bool x)), some da, none => x
  | some (.v (.bool x)), none, some db => !x
  | _, _, _ => false
theorem pickB_ok {a b c : Option D} {d : D} {p : Prop} (h : pickD a b c = some (d, p)) (hb : pickB a b c = true) : p := by
  unfold pickD at h
  split at h <;> first
    | (obtain ⟨_, rfl⟩ := pair_inj h; trivial)
    | (obtain ⟨_, rfl⟩ := pair_inj h; simpa [pickB] using hb)
    | cases h
def binB (op : BinOp) : Value → Value → Bool
  | .int _ a, .int _ b => match op with
    | .shl => decide (0 ≤ b)
    | .shr => decide (0 ≤ b)
    | .quo => b != 0
    | .rem => b != 0
    | _ => true
  | .string x, .string y => match op with
    | .add => decide (((x.size + y.size : Nat) : Int) ≤ IntKind.i64.max)
    | _ => true
  | _, _ => true
theorem binB_ok {td : Option TD} {op : BinOp} {x y : Value} {q : Value × Prop} (h : binV td op x y = some q) (hb : binB op x y = true) : q.2 := by
  unfold binV at h
  split at h
  · cases op
    case shl => injection h with h; subst h; simpa [binB] using hb
    case shr => injection h with h; subst h; simpa [binB] using hb
    all_goals
      simp only at h
      split at h
      · cases h
      · injection h with h
        subst h
        first
          | trivial
          | (simpa [binB] using hb)
  · cases op <;> first
      | (cases h; done)
      | (injection h with h; subst h; first | trivial | (simpa [binB] using hb))
  · split at h <;> first
      | (cases h; done)
      | (injection h with h; subst h; trivial)
  · split at h <;> first
      | (cases h; done)
      | (injection h with h; subst h; trivial)
  · cases h
  · cases h
def binDB (op : BinOp) : Option D → Option D → Bool
  | some (.v x), some (.v y) => binB op x y
  | some (.ro n _), some (.v (.slice none 0 0)) => decide (0 < n)
  | some (.sl _ _ n _), some (.v (.slice none 0 0)) => decide (0 < n)
  | _, _ => false
theorem nilCmpB_ok {td : Option TD} {op : BinOp} {n : Nat} {d : D} {p : Prop} (h : nilCmp td op n = some (d, p)) (hb : decide (0 < n) = true) : p := by
  unfold nilCmp at h
  split at h
  · obtain ⟨_, rfl⟩ := pair_inj h; simpa using hb
  · obtain ⟨_, rfl⟩ := pair_inj h; simpa using hb
  · cases h
theorem binDB_ok {td : Option TD} {op : BinOp} {a b : Option D} {d : D} {p : Prop} (h : binD td op a b = some (d, p)) (hb : binDB op a b = true) : p := by
  unfold binD at h
  split at h
  · simp only [binDB] at hb
    cases hv : binV td op _ _ with
    | none => rw [hv] at h; cases h
    | some q =>
      rw [hv] at h
      have h1 : (.v q.1, q.2) = (d, p) := by simpa using h
      have := binB_ok hv hb
      injection h1 with _ h2
      rw [← h2]; exact this
  · exact nilCmpB_ok h (by simpa only [binDB] using hb)
  · exact nilCmpB_ok h (by simpa only [binDB] using hb)
  · cases h
def isIntB (k : IntKind) : D → Bool
  | .v (.int k' _) => k' == k
  | _ => false
theorem isIntB_ok {k : IntKind} {d : D} (h : isIntB k d = true) : IsInt k d := by
  unfold isIntB at h
  split at h
  · rename_i k' n
    have : k' = k := by simpa using h
    subst this; rfl
  · cases h
def isBoolB : D → Bool
  | .v (.bool _) => true
  | _ => false
theorem isBoolB_ok {d : D} (h : isBoolB d = true) : IsBool d := by
  unfold isBoolB at h
  split at h
  · rfl
  · cases h
def isStrB : D → Bool
  | .v (.string _) => true
  | _ => false
theorem isStrB_ok {d : D} (h : isStrB d = true) : IsStr d := by
  unfold isStrB at h
  split at h
  · rfl
  · cases h
def partB (ti : TI) (xs : List D) (off : Nat) : Bool :=
  match ti.td with
  | .struct _ => decide (off + ti.size ≤ xs.length)
  | .arr _ _ => decide (off + ti.size ≤ xs.length)
  | .int k => decide (off < xs.length) && isIntB k (xs.getD off default)
  | .bool => decide (off < xs.length) && isBoolB (xs.getD off default)
  | .str => decide (off < xs.length) && isStrB (xs.getD off default)
  | _ => decide (off < xs.length)
theorem partB_ok {ti : TI} {xs : List D} {off : Nat} (h : partB ti xs off = true) : (partD ti xs off).2 := by
  unfold partB at h
  unfold partD
  cases htd : ti.td <;> simp only [htd] at h ⊢
  case int k => simp only [Bool.and_eq_true, decide_eq_true_eq] at h; exact ⟨h.1, isIntB_ok h.2⟩
  case bool => simp only [Bool.and_eq_true, decide_eq_true_eq] at h; exact ⟨h.1, isBoolB_ok h.2⟩
  case str => simp only [Bool.and_eq_true, decide_eq_true_eq] at h; exact ⟨h.1, isStrB_ok h.2⟩
  all_goals simpa using h
def fieldB (F : Option (Nat × TI)) : Option D → Bool
  | some (.agg xs) => match F with
    | some (off, ti) => partB ti xs off
    | none => false
  | _ => false
theorem fieldB_ok {F : Option (Nat × TI)} {x : Option D} {d : D} {p : Prop} (h : fieldD F x = some (d, p)) (hb : fieldB F x = true) : p := by
  unfold fieldD at h
  split at h
  · split at h
    · simp only [fieldB] at hb
      have := partB_ok hb
      injection h with h
      rw [h] at this; exact this
    · cases h
  · cases h
def idxB (i : Int) (n : Nat) : Bool := decide (0 ≤ i) && decide (i < n)
theorem idxB_ok {i : Int} {n : Nat} (h : idxB i n = true) : 0 ≤ i ∧ i < n := by
  simpa [idxB] using h
def indexAddrB (t : Option TI) : Option D → Option D → Bool
  | some (.ro n xs), some (.v (.int _ i)) => idxB i n
  | some (.sl b off n _), some (.v (.int _ i)) => idxB i n
  | some (.ptr b off), some (.v (.int _ i)) => match t with
    | some ⟨.arr m e, _, _, _⟩ => idxB i m
    | _ => false
  | some (.rp xs j), some (.v (.int _ i)) => match t with
    | some ⟨.arr m e, _, _, _⟩ => idxB i m
    | _ => false
  | _, _ => false
theorem indexAddrB_ok {T : Tbl} {t : Option TI} {x y : Option D} {d : D} {p : Prop} (h : indexAddrD T t x y = some (d, p)) (hb : indexAddrB t x y = true) : p := by
  unfold indexAddrD at h
  split at h <;> first
    | (cases h; done)
    | (split at h
       · split at h
         · obtain ⟨_, rfl⟩ := pair_inj h
           exact idxB_ok (by simpa only [indexAddrB] using hb)
         · cases h
       · cases h)
def indexB (T : Tbl) (t : Option TI) : Option D → Option D → Bool
  | some (.v (.string s)), some (.v (.int _ i)) => idxB i s.size
  | some (.agg xs), some (.v (.int _ i)) => match t with
    | some ⟨.arr m e, _, _, _⟩ => match T e with
      | some ti => idxB i m && partB ti xs (i.toNat * ti.size)
      | none => false
    | _ => false
  | _, _ => false
theorem indexB_ok {T : Tbl} {t : Option TI} {x y : Option D} {d : D} {p : Prop} (h : indexD T t x y = some (d, p)) (hb : indexB T t x y = true) : p := by
  unfold indexD at h
  split at h
  · split at h
    · obtain ⟨_, rfl⟩ := pair_inj h
      exact idxB_ok (by simpa only [indexB] using hb)
    · cases h
  · split at h
    · split at h
      · rename_i ti hti
        simp only at h
        obtain ⟨_, rfl⟩ := pair_inj h
        simp only [indexB, hti, Bool.and_eq_true] at hb
        exact ⟨idxB_ok hb.1, partB_ok hb.2⟩
      · cases h
    · cases h
  · cases h
def isSlB : D → Bool
  | .ro _ _ => true
  | .v (.slice none 0 0) => true
  | _ => false
theorem isSlB_ok {d : D} (h : isSlB d = true) : IsSl d := by
  unfold isSlB at h; split at h
  · trivial
  · trivial
  · cases h
def cellsZB : List Value → List D → Nat → Bool
  | [], _, _ => true
  | .int k _ :: r, xs, off => isIntB k (xs.getD off default) && cellsZB r xs (off + 1)
  | .bool _ :: r, xs, off => isBoolB (xs.getD off default) && cellsZB r xs (off + 1)
  | .string _ :: r, xs, off => isStrB (xs.getD off default) && cellsZB r xs (off + 1)
  | .slice none 0 0 :: r, xs, off => isSlB (xs.getD off default) && cellsZB r xs (off + 1)
  | _ :: r, xs, off => cellsZB r xs (off + 1)
theorem cellsZB_ok : ∀ (z : List Value) (xs : List D) (off : Nat), cellsZB z xs off = true → cellsZC z xs off
  | [], _, _, _ => trivial
  | u :: r, xs, off, h => by
    unfold cellsZB at h
    unfold cellsZC
    split at h
    · rename_i heq; cases heq
    all_goals first
      | (rename_i heq; injection heq with h1 h2; subst h1; subst h2; simp only [Bool.and_eq_true] at h; first | exact ⟨isIntB_ok h.1, cellsZB_ok _ _ _ h.2⟩ | exact ⟨isBoolB_ok h.1, cellsZB_ok _ _ _ h.2⟩ | exact ⟨isStrB_ok h.1, cellsZB_ok _ _ _ h.2⟩ | exact ⟨isSlB_ok h.1, cellsZB_ok _ _ _ h.2⟩)
      | skip
    all_goals
      rename_i h1 h2 h3 h4 h5 h6 heq
      injection heq with g1 g2; subst g1; subst g2
      split
      all_goals first
        | trivial
        | (rename_i heq2; injection heq2 with e1 e2; first | exact (h3 _ _ e1).elim | exact (h4 _ e1).elim | exact (h5 _ e1).elim | exact (h6 e1).elim | (subst e2; exact cellsZB_ok _ _ _ h))
def partCB (ti : TI) (xs : List D) (off : Nat) : Bool :=
  match ti.td with
  | .struct _ => decide (off + ti.size ≤ xs.length) && cellsZB ti.zero xs off
  | .arr _ _ => decide (off + ti.size ≤ xs.length) && cellsZB ti.zero xs off
  | .slice _ => decide (off < xs.length) && isSlB (xs.getD off default)
  | _ => partB ti xs off
theorem partCB_ok {ti : TI} {xs : List D} {off : Nat} (h : partCB ti xs off = true) : (partC ti xs off).2 := by
  unfold partCB at h
  unfold partC
  cases htd : ti.td <;> simp only [htd] at h ⊢
  case struct => simp only [Bool.and_eq_true, decide_eq_true_eq] at h; exact ⟨h.1, cellsZB_ok _ _ _ h.2⟩
  case arr => simp only [Bool.and_eq_true, decide_eq_true_eq] at h; exact ⟨h.1, cellsZB_ok _ _ _ h.2⟩
  case slice => simp only [Bool.and_eq_true, decide_eq_true_eq] at h; exact ⟨h.1, isSlB_ok h.2⟩
  all_goals exact partB_ok h
def loadB (t : Option TI) : Option D → Bool
  | some (.rp xs j) => match t with
    | some ti => partCB ti xs j
    | none => false
  | _ => false
theorem loadB_ok {t : Option TI} {x : Option D} {d : D} {p : Prop} (h : loadP t x = some (d, p)) (hb : loadB t x = true) : p := by
  unfold loadP at h
  split at h
  · split at h
    · simp only [loadB] at hb
      have := partCB_ok hb
      injection h with h
      rw [h] at this; exact this
    · cases h
  · cases h
def sliceCB (n : Nat) (lo hi mx : Option Int) : Bool :=
  (match lo with | none => true | some i => decide (0 ≤ i) && decide (i ≤ hiN n hi)) &&
  ((match hi with | none => true | some j => decide (0 ≤ j) && decide (j ≤ hiN n mx)) &&
  (match mx with | none => true | some m => decide (0 ≤ m) && (decide (m ≤ n) && hi.isSome)))
theorem sliceCB_ok {n : Nat} {lo hi mx : Option Int} (h : sliceCB n lo hi mx = true) : sliceC n lo hi mx := by
  unfold sliceCB at h
  unfold sliceC
  simp only [Bool.and_eq_true] at h
  refine ⟨?_, ?_, ?_⟩
  · cases lo <;> simp_all
  · cases hi <;> simp_all
  · cases mx <;> simp_all
def capB (es : Nat) : Cap → Bool
  | .exact _ e => e == es
  | .toEnd e => e == es
def sliceB (T : Tbl) (t : Option TI) (lo hi mx : Option (Option Int)) : Option D → Bool
  | some (.ro n xs) => match lo, hi, mx with
    | some lo, some hi, some mx => sliceCB n lo hi mx
    | _, _, _ => false
  | some (.sl b off n c) => match t, lo, hi, mx with
    | some ⟨.slice e, _, _, _⟩, some lo, some hi, some mx => match T e with
      | some ti => sliceCB n lo hi mx && capB ti.size c
      | none => false
    | _, _, _, _ => false
  | some (.ptr b off) => match t, lo, hi, mx with
    | some ⟨.arr m e, _, _, _⟩, some lo, some hi, some none => sliceCB m lo hi none && decide (m ≤ maxLen)
    | _, _, _, _ => false
  | some (.v (.string s)) => match lo, hi with
    | some lo, some hi => sliceCB s.size lo hi none
    | _, _ => false
  | some (.v (.slice none 0 0)) => match lo, hi, mx with
    | some lo, some hi, some mx => sliceCB 0 lo hi mx
    | _, _, _ => false
  | _ => false
theorem sliceB_ok {T : Tbl} {t : Option TI} {lo hi mx : Option (Option Int)} {x : Option D} {d : D} {p : Prop} (h : sliceD T t lo hi mx x = some (d, p)) (hb : sliceB T t lo hi mx x = true) : p := by
  unfold sliceD at h
  split at h
  · split at h
    · split at h
      · obtain ⟨_, rfl⟩ := pair_inj h
        exact sliceCB_ok (by simpa only [sliceB] using hb)
      · cases h
    · cases h
  · split at h
    · split at h
      · rename_i ti hti
        obtain ⟨_, rfl⟩ := pair_inj h
        simp only [sliceB, hti, Bool.and_eq_true] at hb
        refine ⟨sliceCB_ok hb.1, ?_⟩
        have := hb.2
        unfold capB at this
        split <;> simp_all
      · cases h
    · cases h
  · split at h
    · split at h
      · obtain ⟨_, rfl⟩ := pair_inj h
        simp only [sliceB, Bool.and_eq_true, decide_eq_true_eq] at hb
        exact ⟨sliceCB_ok hb.1, hb.2⟩
      · cases h
    · cases h
  · split at h
    · obtain ⟨_, rfl⟩ := pair_inj h
      exact sliceCB_ok (by simpa only [sliceB] using hb)
    · cases h
  · split at h
    · split at h
      · obtain ⟨_, rfl⟩ := pair_inj h
        exact sliceCB_ok (by simpa only [sliceB] using hb)
      · cases h
    · cases h
  · cases h
def eqFsB (f : Option TI → D → D → Bool) (T : Tbl) (xs ys : List D) : List (Nat × TypeId) → Bool
  | [] => true
  | (off, ft) :: r => match T ft with
    | some ti => (partB ti xs off && partB ti ys off) && (f (some ti) (partD ti xs off).1 (partD ti ys off).1 && eqFsB f T xs ys r)
    | none => false
def eqDB (T : Tbl) : Nat → Option TI → D → D → Bool
  | 0, _, _, _ => false
  | n + 1, some ti, x, y => match ti.td, x, y with
    | .struct fs, .agg xs, .agg ys => eqFsB (eqDB T n) T xs ys fs
    | .arr m e, .agg xs, .agg ys => match T e with
      | some te => eqFsB (eqDB T n) T xs ys (arrFs m e te.size)
      | none => false
    | _, _, _ => true
  | _, none, _, _ => false
theorem eqFsB_ok {T : Tbl} {n : Nat} (ih : ∀ (t : Option TI) (x y : D) (b : Bool) (c : Prop), eqD T n t x y = some (b, c) → eqDB T n t x y = true → c) {xs ys : List D} :
    ∀ (fs : List (Nat × TypeId)) (b : Bool) (c : Prop), eqFs (eqD T n) T xs ys fs = some (b, c) → eqFsB (eqDB T n) T xs ys fs = true → c
  | [], b, c, h, hb => by simp only [eqFs] at h; obtain ⟨_, rfl⟩ := pair_inj h; trivial
  | (off, ft) :: r, b, c, h, hb => by
    simp only [eqFs] at h
    simp only [eqFsB] at hb
    split at h
    · rename_i ti hti
      simp only [hti, Bool.and_eq_true] at hb
      split at h
      · rename_i b1 c1 b2 c2 h1 h2
        obtain ⟨_, rfl⟩ := pair_inj h
        exact ⟨⟨partB_ok hb.1.1, partB_ok hb.1.2⟩, ih _ _ _ _ _ h1 hb.2.1, eqFsB_ok ih r _ _ h2 hb.2.2⟩
      · cases h
    · cases h
theorem eqDB_ok {T : Tbl} : ∀ (n : Nat) (t : Option TI) (x y : D) (b : Bool) (c : Prop), eqD T n t x y = some (b, c) → eqDB T n t x y = true → c
  | 0, t, x, y, b, c, h, _ => by simp [eqD] at h
  | n + 1, none, x, y, b, c, h, _ => by simp [eqD] at h
  | n + 1, some ti, x, y, b, c, h, hb => by
    simp only [eqD] at h
    split at h
    · split at h
      · obtain ⟨_, rfl⟩ := pair_inj h; trivial
      · cases h
    · obtain ⟨_, rfl⟩ := pair_inj h; trivial
    · obtain ⟨_, rfl⟩ := pair_inj h; trivial
    · rename_i htd
      simp only [eqDB, htd] at hb
      exact eqFsB_ok (fun t x y b c => eqDB_ok n t x y b c) _ _ _ h hb
    · rename_i htd
      simp only [eqDB, htd] at hb
      split at h
      · rename_i te hte
        simp only [hte] at hb
        exact eqFsB_ok (fun t x y b c => eqDB_ok n t x y b c) _ _ _ h hb
      · cases h
    · cases h
def aggEqB (T : Tbl) (t : Option TI) : Option D → Option D → Bool
  | some x, some y => eqDB T 10 t x y
  | _, _ => false
theorem aggEqB_ok {T : Tbl} {op : BinOp} {t : Option TI} {x y : Option D} {d : D} {c : Prop} (h : aggEq T op t x y = some (d, c)) (hb : aggEqB T t x y = true) : c := by
  unfold aggEq at h
  split at h
  · simp only [aggEqB] at hb
    split at h
    · rename_i he; obtain ⟨_, rfl⟩ := pair_inj h; exact eqDB_ok _ _ _ _ _ _ he hb
    · rename_i he; obtain ⟨_, rfl⟩ := pair_inj h; exact eqDB_ok _ _ _ _ _ _ he hb
    · cases h
  · cases h
def opPB (T : Tbl) (env : Env) : Op → Bool
  | .pick c a b => pickB (opnd env c) (opnd env a) (opnd env b)
  | .binOp op t x y _ => bif isAggD (opnd env x) then aggEqB T (T t) (opnd env x) (opnd env y) else binDB op (opnd env x) (opnd env y)
  | .field s x f => fieldB (fieldOf T s f) (opnd env x)
  | .indexAddr t x i => indexAddrB (T t) (opnd env x) (opnd env i)
  | .index t x i => indexB T (T t) (opnd env x) (opnd env i)
  | .load t x => loadB (T t) (opnd env x)
  | .slice t x lo hi mx => sliceB T (T t) (intO env lo) (intO env hi) (intO env mx) (opnd env x)
  | _ => true
theorem mmL_ok {m : Bool} : ∀ (ds : List D) (d e : D) (p : Prop), mmL m d ds = some (e, p) → p
  | [], d, e, p, h => by simp only [mmL] at h; obtain ⟨_, rfl⟩ := pair_inj h; trivial
  | f :: ds, d, e, p, h => by
    simp only [mmL] at h
    split at h
    · exact mmL_ok ds _ e p h
    · cases h
theorem mmA_ok {m : Bool} {o : Option (List D)} {d : D} {p : Prop} (h : mmA m o = some (d, p)) : p := by
  unfold mmA at h
  split at h
  · exact mmL_ok _ _ _ _ h
  · cases h
theorem opPB_ok {T : Tbl} {env : Env} {op : Op} {d : D} {p : Prop} (h : opP T env op = some (d, p)) (hb : opPB T env op = true) : p := by
  cases op
  case pick => exact pickB_ok h hb
  case binOp op t x y yt =>
    simp only [opP] at h
    simp only [opPB] at hb
    cases hia : isAggD (opnd env x) with
    | true => rw [hia] at h hb; exact aggEqB_ok h hb
    | false => rw [hia] at h hb; exact binDB_ok h hb
  case field => exact fieldB_ok h hb
  case indexAddr => exact indexAddrB_ok h hb
  case index => exact indexB_ok h hb
  case load => exact loadB_ok h hb
  case slice => exact sliceB_ok h hb
  case move x => simp only [opP] at h; cases hx : opnd env x <;> simp_all
  case assign x => simp only [opP] at h; cases hx : opnd env x <;> simp_all
  case unOp op t x =>
    simp only [opP, unD] at h
    split at h
    · rename_i y _
      cases hv : unV op y <;> simp_all
    · cases h
  case convert s t x =>
    simp only [opP, convD] at h
    split at h
    · rename_i y _
      cases hv : convV ((T s).map (·.td)) ((T t).map (·.td)) y <;> simp_all
    · cases h
  case fieldAddr s x f =>
    simp only [opP, fieldAddrD] at h
    split at h
    · split at h
      · split at h
        · cases h
        · obtain ⟨_, rfl⟩ := pair_inj h; trivial
      · cases h
    · split at h
      · split at h
        · cases h
        · obtain ⟨_, rfl⟩ := pair_inj h; trivial
      · cases h
    · cases h
  case extract x i =>
    simp only [opP, extractD] at h
    split at h
    · split at h
      · obtain ⟨_, rfl⟩ := pair_inj h; trivial
      · cases h
    · cases h
  case build t parts =>
    simp only [opP, buildD] at h
    split at h
    · split at h
      · rename_i fs _ _ zero _ _
        cases hv : fillD (placeD T fs) env (zero.map .v) parts.toList <;> simp_all
      · cases h
    · split at h
      · simp only [Option.map_eq_some_iff] at h
        obtain ⟨a, _, h⟩ := h
        obtain ⟨_, rfl⟩ := pair_inj (congrArg some h)
        trivial
      · cases h
    · cases h
  case makeInterface t x =>
    simp only [opP, ifcD] at h
    split at h
    · split at h
      · split at h
        · cases h
        · obtain ⟨_, rfl⟩ := pair_inj h; trivial
      · cases h
    · cases h
  case makeFunc fn first caps =>
    simp only [opP, funcD] at h
    split at h
    · cases hv : getAll env (first.toList ++ caps.toList) <;> simp_all
    · cases h
  case nilCheck x =>
    simp only [opP, nilCheckD] at h
    split at h
    · obtain ⟨_, rfl⟩ := pair_inj h; trivial
    · obtain ⟨_, rfl⟩ := pair_inj h; trivial
    · cases h
  case call c =>
    obtain ⟨callee, args, ts⟩ := c
    cases callee with
    | value f => simp [opP] at h
    | invoke r m => simp [opP] at h
    | builtin b =>
      simp only [opP, callB] at h
      split at h
      · unfold lenD at h
        repeat (split at h <;> first | (cases h; done) | (obtain ⟨_, rfl⟩ := pair_inj h; trivial) | skip)
      · unfold capV at h
        repeat (split at h <;> first | (cases h; done) | (obtain ⟨_, rfl⟩ := pair_inj h; trivial) | skip)
      · unfold mm2 at h
        repeat (split at h <;> first | (cases h; done) | (obtain ⟨_, rfl⟩ := pair_inj h; trivial) | skip)
      · unfold mm2 at h
        repeat (split at h <;> first | (cases h; done) | (obtain ⟨_, rfl⟩ := pair_inj h; trivial) | skip)
      · exact mmA_ok h
      · exact mmA_ok h
      · cases h
  all_goals (simp [opP] at h)
end Go.VD
end
