/- From a law's contract on data to its row. -/
import Derived.Test.YthnhfkpihbjddaaVr
import Derived.Carry
import Derived.ChangeSame
namespace Go.VD
open Go.ChangeShapes Go.WideShapes Go.ChangeAt Go.RowKit
set_option linter.unusedVariables false
set_option linter.unusedSimpArgs false

/-- the arguments of a call, by their types -/
def TArgs (T : Tbl) : List TypeId → List D → Prop
  | [], ds => ds = []
  | t :: ts, ds => ∃ d r, ds = d :: r ∧ (∃ ti cs, T t = some ti ∧ TC T t cs ∧ d = (if ti.td.isAgg then .agg cs else cs.headD default)) ∧ TArgs T ts r

section
variable {H : Type} {enc : TypeId × Value → H} {P : Program} {T : Tbl}

theorem post_below {f : Func} {s : ChangeSpec} {apart fresh handsOn again : Bool} {W W' : World} {args : Array Value} {v : Value} {ds gs : List (DataW H)} {before pa pv : List MemPlace}
    (hW : DataW.Whole enc P f.params.toList s.vars apart W args.toList ds gs before)
    (hres : ∀ (b : Nat) (sp : Nat → Bool) (hd : Bool), DataW.TrodAll enc P W' b sp hd f.resultTypes.toList (v.resultList f.resultTypes.size) (s.fn H (ds ++ gs)).results [])
    (hargs : ∀ sp : Nat → Bool, (∀ p ∈ before, sp p.block = true) → DataW.TrodAll enc P W' 0 sp true f.params.toList args.toList (s.fn H (ds ++ gs)).args pa)
    (hvars : ∀ sp : Nat → Bool, (∀ p ∈ before, sp p.block = true) → DataW.TrodVars enc P W' sp s.vars (s.fn H (ds ++ gs)).vars pv)
    (hps : before = pa ++ pv) (hb : Below W.heap.size W W')
    (hok : ∀ (j : Nat) (t : TypeId) (r : Value), f.resultTypes[j]? = some t → (v.resultList f.resultTypes.size)[j]? = some r → Value.okWide P W' .any 0 t r) :
    s.post enc P f apart fresh handsOn again W args v W' := by
  have hlt : ∀ p ∈ before, p.block < W.heap.size := fun p hp => hW.lt p hp
  have hold : ∀ p ∈ before, (fun b => decide (b < W.heap.size)) p.block = true := fun p hp => by simpa using hlt p hp
  refine ⟨ds, gs, before, [], pa, pv, hW, hres _ _ _, hargs _ hold, hvars _ hold, World.keptBut_mono (fun p hp => ⟨hp, ?_⟩) (hb.frame (· ∈ before)), fun _ => ?_⟩
  · rw [hps, List.mem_append] at hp
    exact Or.inr hp
  · obtain ⟨_, _, _, _, _, hz, hn⟩ := hW
    refine ⟨hok, _, _, ([] ++ pa) ++ pv, ⟨[] ++ pa, pv, trodAll_append (hargs _ (fun _ _ => rfl)) (hres _ _ _), hvars _ (fun _ _ => rfl), rfl, ?_, ?_⟩, ?_⟩
    · intro b off hp
      have hin : MemPlace.cell b off ∈ before := by rw [hps]; simpa using hp
      rw [hb.frozen (hlt _ hin)]
      exact hz b off hin
    · intro ha
      have := hn ha
      rw [hps] at this
      simpa using this
    · intro p hp _
      rw [hps]
      simpa using hp

/-- what is read again, behind the call -/
theorem trodAll_again (hl : laidOutB P = true) {W W' : World} (hb : Below W.heap.size W W') : ∀ (ts : List TypeId) (vs : List Value) (ds : List (DataW H)) (ps : List MemPlace), (∀ t ∈ ts, P.readableRec t = true ∧ t < P.types.size) →
    DataW.TrodAll enc P W 0 (fun _ => true) true ts vs ds ps → ∀ sp : Nat → Bool, (∀ p ∈ ps, p.block < W.heap.size) → (∀ p ∈ ps, sp p.block = true) → DataW.TrodAll enc P W' 0 sp true ts vs ds ps
  | [], vs, ds, ps, _, h, sp, hlt, hsp => by
    cases vs <;> cases ds <;> simp_all [DataW.TrodAll]
  | t :: ts, vs, ds, ps, ht, h, sp, hlt, hsp => by
    obtain ⟨v, vs', d, ds', p, q, rfl, rfl, rfl, h1, h2⟩ := trodAll_cons h
    obtain ⟨hr, hrow⟩ := ht t (by simp)
    refine ⟨p, q, WideElems.Trod_stays hl hr hrow h1 (fun x hx => hb.same (hlt x (by simp [hx]))) (fun x hx => hsp x (by simp [hx])), trodAll_again hl hb ts vs' ds' q (fun t ht' => ht t (by simp [ht'])) h2 sp (fun x hx => hlt x (by simp [hx])) (fun x hx => hsp x (by simp [hx])), rfl⟩

theorem args_read (hT : TblOk P T) {ρ : Nat → Nat × Nat} {W : World} : ∀ (ts : List TypeId) (vs : List Value) (ds : List (DataW H)) (ps : List MemPlace), (∀ t ∈ ts, canRead T 20 t = true) →
    (∀ (j : Nat) t v, ts[j]? = some t → vs[j]? = some v → ∃ base, Value.okWide P W .any base t v) → DataW.TrodAll enc P W 0 (fun _ => true) true ts vs ds ps →
    ∃ es, TArgs T ts es ∧ RdT (ctx ρ (fun k => k < W.heap.size) W []) es vs
  | [], vs, ds, ps, _, _, h => by
    cases vs <;> cases ds <;> simp_all [DataW.TrodAll]
    exact ⟨[], by simp [TArgs], by simp [RdT]⟩
  | t :: ts, vs, ds, ps, hcan, hok, h => by
    obtain ⟨v, vs', d, ds', p, q, rfl, rfl, rfl, ⟨fuel, h1⟩, h2⟩ := trodAll_cons h
    obtain ⟨es, he1, he2⟩ := args_read hT (ρ := ρ) ts vs' ds' q (fun t ht => hcan t (by simp [ht])) (fun j t' v' hj hv => hok (j + 1) t' v' (by simpa using hj) (by simpa using hv)) h2
    obtain ⟨base, hv⟩ := hok 0 t v (by simp) (by simp)
    have hc := hcan t (by simp)
    obtain ⟨cs, hr, htc, hn⟩ := trod_read hT (ρ := ρ) 20 fuel t v.cells.toList _ hc h1
    have key : ∃ ti, T t = some ti ∧ Rd (ctx ρ (fun k => k < W.heap.size) W []) (if ti.td.isAgg then .agg cs else cs.headD default) v := by
      have one : ∀ (ti : TI) (e : D), T t = some ti → ti.td.isAgg = false → cs = [e] → v.cells = #[v] → ∃ ti, T t = some ti ∧ Rd (ctx ρ (fun k => k < W.heap.size) W []) (if ti.td.isAgg then .agg cs else cs.headD default) v := by
        intro ti e ht hag hcs hv
        refine ⟨ti, ht, ?_⟩
        rw [hag, hcs]
        rw [hv, hcs] at hr
        simp only [RdL] at hr
        obtain ⟨u, r, hu, _, hd, _⟩ := hr
        simp only [List.cons.injEq] at hu
        obtain ⟨rfl, _⟩ := hu
        simpa using hd
      cases htc with
      | bool ht x => obtain ⟨b, rfl⟩ := okWide_bool ((hT.ok t _ ht).bool rfl) hv; exact one _ _ ht rfl rfl rfl
      | int ht n hn => obtain ⟨b, rfl⟩ := okWide_int ((hT.ok t _ ht).int rfl) hv; exact one _ _ ht rfl rfl rfl
      | str ht s hs => obtain ⟨b, rfl⟩ := okWide_string ((hT.ok t _ ht).str rfl) hv; exact one _ _ ht rfl rfl rfl
      | slice ht chunks hl hcc => obtain ⟨a, n, c, rfl⟩ := okWide_slice ((hT.ok t _ ht).slice rfl) hv; exact one _ _ ht rfl rfl rfl
      | struct ht parts hl hp =>
        obtain ⟨F, hF, _⟩ := (hT.ok t _ ht).struct rfl
        obtain ⟨us, rfl, _⟩ := okWide_struct hF hv
        refine ⟨_, ht, ?_⟩
        simp only [TD.isAgg, if_true, Rd]
        exact ⟨us, rfl, hr⟩
      | arr ht chunks hl hcc =>
        have hu := (hT.ok t _ ht).arr rfl
        have : ∃ us, v = .agg us := by
          simp only [Value.okWide, hu] at hv
          obtain ⟨us, e, _⟩ := hv
          exact ⟨us, e⟩
        obtain ⟨us, rfl⟩ := this
        refine ⟨_, ht, ?_⟩
        simp only [TD.isAgg, if_true, Rd]
        exact ⟨us, rfl, hr⟩
    obtain ⟨ti, hti, hrd⟩ := key
    refine ⟨(if ti.td.isAgg then .agg cs else cs.headD default) :: es, ?_, ?_⟩
    · simp only [TArgs]; exact ⟨_, es, rfl, ⟨ti, cs, hti, htc, rfl⟩, he1⟩
    · simp only [RdT]; exact ⟨v, vs', rfl, hrd, he2⟩

theorem law_contract {f : FuncId} {fn : Func} {s : ChangeSpec} {tb : TypeId} (hT : TblOk P T) (hl : laidOutB P = true) (hparams : ∀ t ∈ fn.params.toList, P.readableRec t = true ∧ t < P.types.size ∧ canRead T 20 t = true)
    (hres : fn.resultTypes = #[tb]) (htb : P.underlying tb = some .bool) (hvars : s.vars = [])
    (hspec : ∀ (ds : List (DataW H)), ds.length = fn.params.size → (s.fn H ds).results = [.lit (.bool true)] ∧ (s.fn H ds).args = ds ∧ (s.fn H ds).vars = [])
    (law : ∀ es, TArgs T fn.params.toList es → PureJ P f es (.v (.bool true)))
    (W : World) (hG : GOK (fun k => k < W.heap.size) W) (base : Nat) (args : Array Value) (ds gs : List (DataW H)) (before : List MemPlace) (hval : ∀ (j : Nat) t v, fn.params[j]? = some t → args[j]? = some v → Value.okWide P W .any base t v)
    (hW : DataW.Whole enc P fn.params.toList s.vars false W args.toList ds gs before) :
    Calls P f args W fun e W' => ∃ v, e = .returned v ∧ s.post enc P fn false true false false W args v W' := by
  have hW' := hW
  obtain ⟨p, q, hA, hV, hpq, hfz, hnd⟩ := hW
  rw [hvars] at hV
  have hg : gs = [] ∧ q = [] := by
    cases gs <;> simp_all [DataW.TrodVars]
  obtain ⟨rfl, rfl⟩ := hg
  rw [List.append_nil] at hpq
  subst hpq
  obtain ⟨es, he1, he2⟩ := args_read hT (ρ := fun _ => (0, 0)) fn.params.toList args.toList ds before (fun t ht => (hparams t ht).2.2) (fun j t v hj hv => ⟨base, hval j t v (by simpa using hj) (by simpa using hv)⟩) hA
  have hlen : ds.length = fn.params.size := by
    have : ∀ (ts : List TypeId) (vs : List Value) (ds : List (DataW H)) (ps : List MemPlace), DataW.TrodAll enc P W 0 (fun _ => true) true ts vs ds ps → ds.length = ts.length := by
      intro ts
      induction ts with
      | nil => intro vs ds ps h; cases vs <;> cases ds <;> simp_all [DataW.TrodAll]
      | cons t ts ih =>
        intro vs ds ps h
        obtain ⟨v, vs', d, ds', p, q, rfl, rfl, rfl, h1, h2⟩ := trodAll_cons h
        simp [ih _ _ _ h2]
    have := this _ _ _ _ hA
    simpa using this
  obtain ⟨hs1, hs2, hs3⟩ := hspec ds hlen
  have hcall := (law es he1).call (fun k => k < W.heap.size) W args.toList (fun _ h => h) hG he2
  rw [show args.toList.toArray = args from by simp] at hcall
  refine hcall.mono fun e W' ⟨v, S', he, hgr, _, _, _, hr⟩ => ?_
  simp only [Rd] at hr
  subst hr
  have hb : Below W.heap.size W W' := ⟨hgr.os, hgr.tape, hgr.output, hgr.size, hgr.heap⟩
  refine ⟨_, he, post_below (pa := before) (pv := []) hW' (fun b sp hd => ?_) (fun sp hsp => ?_) (fun sp _ => ?_) (by simp) hb (ok_one hres rfl (okWide_bool_mk htb _))⟩
  · rw [List.append_nil, hs1, hres]
    exact trodAll_cons_mk (shut_bool htb _) trodAll_mk0
  · rw [List.append_nil, hs2]
    exact trodAll_again hl hb _ _ _ _ (fun t ht => ⟨(hparams t ht).1, (hparams t ht).2.1⟩) hA sp (fun p hp => hW'.lt p hp) hsp
  · rw [List.append_nil, hs3, hvars]; rfl
end
end Go.VD
