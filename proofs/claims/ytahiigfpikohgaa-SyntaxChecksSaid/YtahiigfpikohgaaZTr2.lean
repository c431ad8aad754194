import Derived.Test.YtahiigfpikohgaaZTr1
import Derived.Maps.AppendAt
section
namespace Go.VD
set_option linter.unusedVariables false
set_option linter.unusedSimpArgs false
def szOf (T : Tbl) (t : TypeId) : Nat := match T t with | some ti => ti.size | none => 0
section
variable {P : Program} {T : Tbl} (hT : TblOk P T) {E : Ctx}
theorem pick_sound {dc da db : Option D} {d : D} {c : Prop} (h : pickD dc da db = some (d, c)) (hc : c) {x y z : Value} (hx : ∀ d', dc = some d' → Rd E d' x) (hy : ∀ d', da = some d' → Rd E d' y) (hz : ∀ d', db = some d' → Rd E d' z) :
    ∃ b, x = .bool b ∧ Rd E d (if b then y else z) := by
  unfold pickD at h
  split at h
  · rename_i b p q
    obtain ⟨rfl, rfl⟩ := pair_inj h
    have h1 := hx _ rfl
    have h2 := hy _ rfl
    have h3 := hz _ rfl
    simp only [Rd] at h1 h2 h3
    refine ⟨b, h1, ?_⟩
    simp only [Rd]
    cases b
    · simpa using h3
    · simpa using h2
  · rename_i b da db _
    obtain ⟨rfl, rfl⟩ := pair_inj h
    have h1 := hx _ rfl
    have h2 := hy _ rfl
    have h3 := hz _ rfl
    simp only [Rd] at h1
    refine ⟨b, h1, ?_⟩
    cases b
    · simpa using h3
    · simpa using h2
  · rename_i b da
    obtain ⟨rfl, rfl⟩ := pair_inj h
    have h1 := hx _ rfl
    have h2 := hy _ rfl
    simp only [Rd] at h1
    exact ⟨b, h1, by rw [hc]; exact h2⟩
  · rename_i b db
    obtain ⟨rfl, rfl⟩ := pair_inj h
    have h1 := hx _ rfl
    have h2 := hz _ rfl
    simp only [Rd] at h1
    exact ⟨b, h1, by rw [hc]; exact h2⟩
  · cases h
theorem fill_sound {env : Env} {ev : Operand → Value} (hg : ∀ x d, opnd env x = some d → Rd E d (ev x)) {place : Nat → Option (Nat × Nat)} :
    ∀ (parts : List (Nat × Operand)) (cs : List D) (vs : Array Value) (out : List D), fillD place env cs parts = some out → RdL E cs vs.toList →
      ∃ ws : Array Value, Instr.fill place vs (parts.map fun p => (p.1, ev p.2)) = some ws ∧ RdL E out ws.toList
  | [], cs, vs, out, h, hcs => by
    simp only [fillD] at h; injection h with h; subst h
    exact ⟨vs, by simp [Instr.fill], hcs⟩
  | (i, x) :: rest, cs, vs, out, h, hcs => by
    simp only [fillD] at h
    split at h
    · rename_i off size ys hp hys
      split at h
      · rename_i hlen
        cases hgx : opnd env x with
        | none => simp [hgx] at hys
        | some dx =>
          simp only [hgx, Option.bind_some] at hys
          have hl := cellsD_rd hys (hg x dx hgx)
          have hn := hl.length
          have hcn := hcs.length
          have hsz : (ev x).cells.size = size := by rw [← Array.length_toList, hn]; exact hlen.1
          have hvs : vs.size = cs.length := by rw [← Array.length_toList, hcn]
          obtain ⟨ws, h1, h2⟩ := fill_sound hg rest _ _ out h (by
            have := setAll_rd (E := E) ys (ev x).cells.toList cs vs off 0 hl hcs
            simpa using this)
          refine ⟨ws, ?_, h2⟩
          simp only [List.map_cons, Instr.fill, hp]
          rw [if_neg (by simp [hsz]; omega)]
          rw [← h1]
          congr 1
          rw [← Array.foldl_toList]
          simp
      · cases h
    · cases h
def placesOf (T : Tbl) (l : List Field) : List (Nat × Nat) := l.map fun (f : Field) => (f.offset, szOf T f.type)
include hT
theorem run_places : ∀ (l : List Field), (∀ f ∈ l, (T f.type).isSome = true) → ∀ w, (l.mapM fun (f : Field) => (do pure (f.offset, ← sizeOf f.type) : Sem (Nat × Nat))).run P w = .ok (placesOf T l) w
  | [], _, w => by simp [placesOf]
  | f :: r, h, w => by
    obtain ⟨ti, hti⟩ := Option.isSome_iff_exists.1 (h f (by simp))
    have ih := run_places r (fun g hg => h g (by simp [hg])) w
    simp only [List.mapM_cons, Sem.run_bind, (hT.ok _ _ hti).run_size, Sem.run_pure, Result.andThen_ok, ih]
    simp [placesOf, szOf, hti]
theorem build_sound {env : Env} {ev : Operand → Value} (hg : ∀ x d, opnd env x = some d → Rd E d (ev x)) {t : TypeId} {parts : Array (Nat × Operand)} {d : D} {c : Prop} (h : buildD T env (T t) parts.toList = some (d, c)) (w : World) :
    ∃ v, (Instr.build t (parts.map fun (i, x) => (i, ev x))).run P w = .ok v w ∧ Rd E d v := by
  have hparts : (parts.map fun (p : Nat × Operand) => (p.1, ev p.2)).toList = parts.toList.map fun p => (p.1, ev p.2) := by simp
  have hz : ∀ (ti : TI), T t = some ti → ∃ z : Value, (∀ w, (zeroValue t).run P w = .ok z w) ∧ RdL E (ti.zero.map .v) z.cells.toList := fun ti ht => by
    obtain ⟨z, h1, h2⟩ := (hT.ok t ti ht).run_zero
    refine ⟨z, h2, ?_⟩
    rw [h1]
    exact RdL.scalars E _ (by rw [List.all_eq_true]; exact (hT.ok t ti ht).one)
  unfold buildD at h
  split at h
  · rename_i fs _ _ zero ht
    split at h
    · rename_i hall
      obtain ⟨z, hz1, hz2⟩ := hz _ ht
      cases hf : fillD (placeD T fs) env (zero.map .v) parts.toList with
      | none => simp [hf] at h
      | some cs =>
        simp only [hf, Option.map_some] at h
        obtain ⟨rfl, rfl⟩ := pair_inj h
        obtain ⟨F, hF, hm⟩ := (hT.ok t _ ht).struct rfl
        have hall' : ∀ f ∈ F.toList, (T f.type).isSome = true := by
          intro f hfm
          rw [← hm, List.all_map, List.all_eq_true] at hall
          exact hall f hfm
        have hmap : (F.mapM fun (f : Field) => (do pure (f.offset, ← sizeOf f.type) : Sem (Nat × Nat))).run P w = .ok (placesOf T F.toList).toArray w := by
          rw [Array.mapM_eq_mapM_toList]
          simp only [Sem.run_map, run_places hT F.toList hall', Result.andThen_ok]
        have hplace : ∀ i p, placeD T fs i = some p → (placesOf T F.toList).toArray[i]? = some p := by
          intro i p hp
          unfold placeD at hp
          split at hp
          · rename_i off ft hfs
            split at hp
            · rename_i ti hti
              injection hp with hp; subst hp
              rw [← hm] at hfs
              simp only [List.getElem?_map] at hfs
              cases hFi : F.toList[i]? with
              | none => simp [hFi] at hfs
              | some f =>
                simp only [hFi, Option.map_some, Option.some.injEq, Prod.mk.injEq] at hfs
                simp only [List.getElem?_toArray, placesOf, List.getElem?_map, hFi, Option.map_some, hfs.2, hti, hfs.1, szOf]
            · cases hp
          · cases hp
        have hplace' : placeD T fs = fun i => (placesOf T F.toList).toArray[i]? := by
          funext i
          cases hp : placeD T fs i with
          | some p => exact (hplace i p hp).symm
          | none =>
            unfold placeD at hp
            simp only [List.getElem?_toArray, placesOf, List.getElem?_map]
            cases hFi : F.toList[i]? with
            | none => rfl
            | some f =>
              exfalso
              have hs := hall' f (List.mem_of_getElem? hFi)
              obtain ⟨ti, hti⟩ := Option.isSome_iff_exists.1 hs
              rw [← hm] at hp
              simp [hFi, hti] at hp
        obtain ⟨ws, h1, h2⟩ := fill_sound (E := E) hg parts.toList _ z.cells _ hf hz2
        rw [hplace'] at h1
        refine ⟨.agg ws, ?_, by simp only [Rd]; exact ⟨ws, rfl, h2⟩⟩
        simp only [Instr.build, Sem.run_bind, hz1, Result.andThen_ok, run_underlying hF, hmap, Sem.run_pure]
        rw [hparts, h1]
        rfl
    · cases h
  · rename_i n e _ _ zero ht
    split at h
    · rename_i ti hte
      obtain ⟨z, hz1, hz2⟩ := hz _ ht
      cases hf : fillD (fun i => some (i * ti.size, ti.size)) env (zero.map .v) parts.toList with
      | none => simp [hf] at h
      | some cs =>
        simp only [hf, Option.map_some] at h
        obtain ⟨rfl, rfl⟩ := pair_inj h
        obtain ⟨ws, h1, h2⟩ := fill_sound (E := E) hg parts.toList _ z.cells _ hf hz2
        refine ⟨.agg ws, ?_, by simp only [Rd]; exact ⟨ws, rfl, h2⟩⟩
        simp only [Instr.build, Sem.run_bind, hz1, Result.andThen_ok, run_underlying ((hT.ok t _ ht).arr rfl), (hT.ok e _ hte).run_size, Sem.run_pure]
        rw [hparts, h1]
        rfl
    · cases h
  · cases h
theorem len_sound {t ty : TypeId} {dx : Option D} {d : D} {c : Prop} (h : lenD (T t) dx = some (d, c)) {x : Value} (hx : ∀ d', dx = some d' → Rd E d' x) (w : World) :
    ∃ v, (Builtin.len_ #[t] ty #[x]).run P w = .ok v w ∧ Rd E d v := by
  unfold lenD at h
  split at h <;> (try (cases h; done)) <;> split at h <;> (try (cases h; done)) <;> obtain ⟨rfl, rfl⟩ := pair_inj h <;> rename_i ht <;> have hr := hx _ rfl
  · simp only [Rd] at hr; obtain ⟨_, A, cp, rfl, _⟩ := hr
    exact ⟨_, by simp [Builtin.len_, run_underlying ((hT.ok t _ ht).slice rfl)]; rfl, by simp [Rd, goInt]⟩
  · rename_i b off n cp _ _ _ _ _
    have : ∃ A c, x = .slice A n c := by
      cases cp <;> simp only [Rd] at hr
      · obtain ⟨_, _, _, A, h, _⟩ := hr; exact ⟨A, _, h⟩
      · obtain ⟨_, A, c, h, _⟩ := hr; exact ⟨A, c, h⟩
    obtain ⟨A, c, rfl⟩ := this
    exact ⟨_, by simp [Builtin.len_, run_underlying ((hT.ok t _ ht).slice rfl)]; rfl, by simp [Rd, goInt]⟩
  · simp only [Rd] at hr; subst hr
    exact ⟨_, by simp [Builtin.len_, run_underlying ((hT.ok t _ ht).str rfl)]; rfl, by simp [Rd, goInt]⟩
  · simp only [Rd] at hr; subst hr
    exact ⟨_, by simp [Builtin.len_, run_underlying ((hT.ok t _ ht).slice rfl)]; rfl, by simp [Rd, goInt]⟩
theorem cap_sound {t ty : TypeId} {dx : Option D} {d : D} {c : Prop} (h : capV (T t) dx = some (d, c)) {x : Value} (hx : ∀ d', dx = some d' → Rd E d' x) (w : World) :
    ∃ v, (Builtin.cap_ #[t] ty #[x]).run P w = .ok v w ∧ Rd E d v := by
  unfold capV at h
  split at h <;> (try (cases h; done)) <;> split at h <;> (try (cases h; done)) <;> obtain ⟨rfl, rfl⟩ := pair_inj h <;> rename_i ht <;> have hr := hx _ rfl
  · simp only [Rd] at hr; obtain ⟨_, _, _, A, rfl, _⟩ := hr
    exact ⟨_, by simp [Builtin.cap_, run_underlying ((hT.ok t _ ht).slice rfl)]; rfl, by simp [Rd, goInt]⟩
  · simp only [Rd] at hr; subst hr
    exact ⟨_, by simp [Builtin.cap_, run_underlying ((hT.ok t _ ht).slice rfl)]; rfl, by simp [Rd, goInt]⟩
omit hT
theorem mm_sound {isMax : Bool} {dx dy : Option D} {d : D} {c : Prop} (h : mm2 isMax dx dy = some (d, c)) {x y : Value} (hx : ∀ d', dx = some d' → Rd E d' x) (hy : ∀ d', dy = some d' → Rd E d' y) (ts : Array TypeId) (ty : TypeId) (w : World) :
    ∃ v, (if isMax then Builtin.max_ ts ty #[x, y] else Builtin.min_ ts ty #[x, y]).run P w = .ok v w ∧ Rd E d v := by
  unfold mm2 at h
  split at h
  · rename_i k a l b
    split at h
    · rename_i hk; subst hk
      obtain ⟨rfl, rfl⟩ := pair_inj h
      have h1 := hx _ rfl
      have h2 := hy _ rfl
      simp only [Rd] at h1 h2
      subst h1; subst h2
      cases isMax
      · refine ⟨.int k (min a b), ?_, by simp [Rd]⟩
        simp only [Bool.false_eq_true, if_false, Builtin.min_]
        have e : (if b < a then b else a) = min a b := by split <;> omega
        simp [Builtin.min2, e]
      · refine ⟨.int k (max a b), ?_, by simp [Rd]⟩
        simp only [if_true, Builtin.max_]
        have e : (if b > a then b else a) = max a b := by split <;> omega
        simp [Builtin.max2, e]
    · cases h
  · cases h
theorem mm2_run {isMax : Bool} {dx dy d : D} {c : Prop} (h : mm2 isMax (some dx) (some dy) = some (d, c)) {x y : Value} (hx : Rd E dx x) (hy : Rd E dy y) (w : World) :
    ∃ v, (if isMax then Builtin.max2 x y else Builtin.min2 x y).run P w = .ok v w ∧ Rd E d v := by
  obtain ⟨v, h1, h2⟩ := mm_sound (P := P) h (fun d' e => by cases e; exact hx) (fun d' e => by cases e; exact hy) #[] 0 w
  refine ⟨v, ?_, h2⟩
  cases isMax <;> simpa [Builtin.max_, Builtin.min_] using h1
theorem mmL_run {isMax : Bool} {w : World} : ∀ (ds : List D) (d : D) (v : Value) (vs : List Value) (e : D) (c : Prop), mmL isMax d ds = some (e, c) → Rd E d v → RdT E ds vs →
    ∃ u, (vs.foldlM (if isMax then Builtin.max2 else Builtin.min2) v).run P w = .ok u w ∧ Rd E e u
  | [], d, v, vs, e, c, h, hd, hs => by
    simp only [mmL] at h
    obtain ⟨rfl, rfl⟩ := pair_inj h
    simp only [RdT] at hs
    subst hs
    exact ⟨v, by simp, hd⟩
  | f :: ds, d, v, vs, e, c, h, hd, hs => by
    simp only [mmL] at h
    simp only [RdT] at hs
    obtain ⟨u, r, rfl, h1, h2⟩ := hs
    split at h
    · rename_i g c' hg
      obtain ⟨z, k1, k2⟩ := mm2_run (P := P) hg hd h1 w
      obtain ⟨q, k3, k4⟩ := mmL_run ds g z r e c h k2 h2
      refine ⟨q, ?_, k4⟩
      cases isMax <;> simp at k1 k3 ⊢ <;> rw [k1] <;> simpa using k3
    · cases h
theorem mmA_run {isMax : Bool} {o : Option (List D)} {d : D} {c : Prop} (h : mmA isMax o = some (d, c)) {args : Array Value} (hr : ∀ ds, o = some ds → RdT E ds args.toList) (ts : Array TypeId) (ty : TypeId) (w : World) :
    ∃ v, (if isMax then Builtin.max_ ts ty args else Builtin.min_ ts ty args).run P w = .ok v w ∧ Rd E d v := by
  unfold mmA at h
  split at h
  · rename_i d0 ds
    have h0 := hr _ rfl
    simp only [RdT] at h0
    obtain ⟨u, r, e, h1, h2⟩ := h0
    obtain ⟨q, k3, k4⟩ := mmL_run (P := P) (w := w) ds d0 u r d c h h1 h2
    refine ⟨q, ?_, k4⟩
    cases isMax <;> simp only [Builtin.max_, Builtin.min_, e] <;> simpa using k3
  · cases h
end
end Go.VD
end
section
namespace Go.VD
set_option linter.unusedVariables false
set_option linter.unusedSimpArgs false
section
variable {P : Program} {T : Tbl} (hT : TblOk P T) {E : Ctx}
theorem intO_bound {env : Env} {ev : Operand → Value} (hg : ∀ x d, opnd env x = some d → Rd E d (ev x)) (x : Option Operand) (b : Option Int) (h : intO env x = some b) : BoundV b (x.map ev) := by
  cases x with
  | none => simp only [intO] at h; injection h with h; subst h; simp [BoundV]
  | some x =>
    simp only [intO] at h
    split at h
    · rename_i k i hgx
      injection h with h; subst h
      have := hg x _ hgx
      simp only [Rd] at this
      simp only [Option.map_some, BoundV]
      exact ⟨k, this⟩
    · cases h
theorem getAll_rd {env : Env} {ev : Operand → Value} (hg : ∀ x d, opnd env x = some d → Rd E d (ev x)) : ∀ (xs : List Operand) (ds : List D), getAll env xs = some ds → RdT E ds (xs.map ev)
  | [], ds, h => by simp only [getAll] at h; injection h with h; subst h; simp [RdT]
  | x :: xs, ds, h => by
    simp only [getAll] at h
    split at h
    · rename_i d ds' h1 h2
      injection h with h; subst h
      simp only [List.map_cons, RdT]
      exact ⟨_, _, rfl, hg x d h1, getAll_rd hg xs ds' h2⟩
    · cases h
theorem run_forIn_all {α : Type} (P : Program) (w : World) (b : α → Bool) : ∀ (l : List α) (step : α → Option Bool × Unit → Sem (ForInStep (Option Bool × Unit))),
    (∀ f ∈ l, (step f (none, ())).run P w = .ok (if b f then .yield (none, ()) else .done (some false, ())) w) → (forIn l (none, ()) step).run P w = .ok (if l.all b then (none, ()) else (some false, ())) w
  | [], step, h => by simp
  | f :: l, step, h => by
    rw [List.forIn_cons]
    simp only [Sem.run_bind, h f (by simp), Result.andThen_ok]
    cases hb : b f with
    | true => simpa [hb] using run_forIn_all P w b l step fun g hg => h g (by simp [hg])
    | false => simp [hb]
theorem bytes_beq (x y : ByteArray) : (x == y) = (x.toList == y.toList) ∨ True := .inr trivial
include hT
theorem eqFs_sound {n : Nat} {us vs : Array Value} {xs ys : List D} (hu : RdL E xs us.toList) (hv : RdL E ys vs.toList)
    (ih : ∀ (t : TypeId) (x y : D) (u v : Value) (b : Bool) (c : Prop), eqD T n (T t) x y = some (b, c) → c → Rd E x u → Rd E y v → ∀ d, n ≤ d → ∀ w, (Op.equalIn d t u v).run P w = .ok b w) {d : Nat} (hd : n ≤ d) (w : World) :
    ∀ (fs : List (Nat × TypeId)) (b : Bool) (c : Prop), eqFs (eqD T n) T xs ys fs = some (b, c) → c →
      ∃ bs : Nat × TypeId → Bool, b = fs.all bs ∧ ∀ f ∈ fs, ((part f.2 us f.1).run P w).andThen (fun a w' => ((part f.2 vs f.1).run P w').andThen fun a' w'' => (Op.equalIn d f.2 a a').run P w'') = .ok (bs f) w
  | [], b, c, h, hc => by
    simp only [eqFs] at h
    obtain ⟨rfl, rfl⟩ := pair_inj h
    exact ⟨fun _ => true, rfl, by simp⟩
  | (off, ft) :: r, b, c, h, hc => by
    simp only [eqFs] at h
    split at h
    · rename_i ti hti
      split at h
      · rename_i b1 c1 b2 c2 h1 h2
        obtain ⟨rfl, rfl⟩ := pair_inj h
        obtain ⟨⟨hc1, hc2⟩, hc3, hc4⟩ := hc
        obtain ⟨a1, e1, r1⟩ := part_sound (P := P) (hT.ok ft ti hti) hu hc1 w
        obtain ⟨a2, e2, r2⟩ := part_sound (P := P) (hT.ok ft ti hti) hv hc2 w
        have hq := ih ft _ _ a1 a2 b1 c1 (by rw [hti]; exact h1) hc3 r1 r2 d hd w
        obtain ⟨bs, hb, hall⟩ := eqFs_sound hu hv ih hd w r b2 c2 h2 hc4
        by_cases hin : (off, ft) ∈ r
        · have hbs := hall _ hin
          simp only [e1, e2, Result.andThen_ok, hq] at hbs
          have hb1 : b1 = bs (off, ft) := by injection hbs
          refine ⟨bs, by rw [List.all_cons, ← hb, hb1], fun f hf => ?_⟩
          rcases List.mem_cons.1 hf with rfl | hf
          · exact hall _ hin
          · exact hall f hf
        · refine ⟨fun f => if f = (off, ft) then b1 else bs f, ?_, fun f hf => ?_⟩
          · simp only [List.all_cons, if_true]
            congr 1
            rw [hb]
            have key : ∀ l : List (Nat × TypeId), (∀ g ∈ l, g ≠ (off, ft)) → l.all bs = l.all (fun f => if f = (off, ft) then b1 else bs f) := by
              intro l
              induction l with
              | nil => intro _; rfl
              | cons g l ihl =>
                intro hne
                simp only [List.all_cons]
                rw [if_neg (hne g (by simp)), ihl fun g' hg' => hne g' (by simp [hg'])]
            exact key r fun g hg e => hin (e ▸ hg)
          · rcases List.mem_cons.1 hf with rfl | hf
            · simp only [e1, e2, Result.andThen_ok, hq, if_true]
            · have hne : f ≠ (off, ft) := fun e => hin (e ▸ hf)
              show _ = Result.ok (if f = (off, ft) then b1 else bs f) w
              rw [if_neg hne]; exact hall f hf
      · cases h
    · cases h
theorem eqD_sound : ∀ (n : Nat) (t : TypeId) (x y : D) (u v : Value) (b : Bool) (c : Prop), eqD T n (T t) x y = some (b, c) → c → Rd E x u → Rd E y v → ∀ d, n ≤ d → ∀ w, (Op.equalIn d t u v).run P w = .ok b w
  | 0, t, x, y, u, v, b, c, h, _, _, _, _, _, _ => by simp [eqD] at h
  | n + 1, t, x, y, u, v, b, c, h, hc, hu, hv, d, hd, w => by
    obtain ⟨d, rfl⟩ : ∃ d', d = d' + 1 := ⟨d - 1, by omega⟩
    cases hti : T t with
    | none => simp [hti, eqD] at h
    | some ti =>
      have hk := hT.ok t ti hti
      simp only [hti, eqD] at h
      split at h
      · rename_i htd
        split at h
        · rename_i k a l b' hkl
          obtain ⟨rfl, rfl⟩ := pair_inj h
          simp only [Rd] at hu hv
          subst hu; subst hv
          simp [Op.equalIn, run_underlying (hk.int htd), hkl]
        · cases h
      · rename_i htd
        obtain ⟨rfl, rfl⟩ := pair_inj h
        simp only [Rd] at hu hv
        subst hu; subst hv
        simp [Op.equalIn, run_underlying (hk.bool htd)]
      · rename_i htd
        obtain ⟨rfl, rfl⟩ := pair_inj h
        simp only [Rd] at hu hv
        subst hu; subst hv
        simp [Op.equalIn, run_underlying (hk.str htd)]
      · rename_i fs xs ys htd
        simp only [Rd] at hu hv
        obtain ⟨us, rfl, hu⟩ := hu
        obtain ⟨vs, rfl, hv⟩ := hv
        obtain ⟨F, hF, hfs⟩ := hk.struct htd
        have heq := hk.eq (by simp [htd, TD.isAgg])
        simp only [eqOkB, hF, Bool.and_eq_true, Bool.not_eq_true'] at heq
        obtain ⟨⟨hnames, hheld⟩, _⟩ := heq
        obtain ⟨bs, hb, hall⟩ := eqFs_sound hT hu hv (fun t x y u v b c => eqD_sound n t x y u v b c) (d := d) (by omega) w fs b c h hc
        simp only [Op.equalIn, Sem.run_bind, run_underlying hF, Result.andThen_ok, run_program, hheld, Bool.false_eq_true, if_false]
        have hfor := run_forIn_all P w (fun f : Field => bs (f.offset, f.type)) F.toList
          (fun f __s => if f.name ≠ "_" then do
              let a ← part f.type us f.offset
              let a' ← part f.type vs f.offset
              let r ← Op.equalIn d f.type a a'
              if (!r) = true then pure (ForInStep.done (some false, ())) else pure (ForInStep.yield (none, ()))
            else pure (ForInStep.yield (none, ()))) (fun f hf => by
            have hn : f.name ≠ "_" := by
              have := List.all_eq_true.1 hnames f hf
              simpa using this
            have := hall (f.offset, f.type) (by rw [← hfs]; exact List.mem_map.2 ⟨f, hf, rfl⟩)
            simp only [ne_eq, hn, not_false_eq_true, if_true, Sem.run_bind]
            cases h1 : (part f.type us f.offset).run P w with
            | ok a w1 =>
              simp only [h1, Result.andThen_ok] at this ⊢
              cases h2 : (part f.type vs f.offset).run P w1 with
              | ok a' w2 =>
                simp only [h2, Result.andThen_ok] at this ⊢
                simp only [this, Result.andThen_ok]
                cases bs (f.offset, f.type) <;> simp
              | halt => simp [h2, Result.andThen] at this
            | halt => simp [h1, Result.andThen] at this)
        rw [Array.forIn_toList] at hfor
        rw [hfor]
        have hbb : b = F.toList.all (fun f => bs (f.offset, f.type)) := by
          rw [hb, ← hfs, List.all_map]; rfl
        simp only [Result.andThen_ok]
        rw [hbb]
        cases F.toList.all (fun f => bs (f.offset, f.type)) <;> simp
      · rename_i m e xs ys htd
        simp only [Rd] at hu hv
        obtain ⟨us, rfl, hu⟩ := hu
        obtain ⟨vs, rfl, hv⟩ := hv
        have hF := hk.arr htd
        split at h
        · rename_i te hte
          obtain ⟨bs, hb, hall⟩ := eqFs_sound hT hu hv (fun t x y u v b c => eqD_sound n t x y u v b c) (d := d) (by omega) w _ b c h hc
          simp only [Op.equalIn, Sem.run_bind, run_underlying hF, Result.andThen_ok, (hT.ok e te hte).run_size]
          have hfor := run_forIn_all P w (fun i : Nat => bs (i * te.size, e)) (List.range' 0 m 1)
            (fun i __s => do
                let a ← part e us (i * te.size)
                let a' ← part e vs (i * te.size)
                let r ← Op.equalIn d e a a'
                if (!r) = true then pure (ForInStep.done (some false, ())) else pure (ForInStep.yield (none, ()))) (fun i hi => by
              have := hall (i * te.size, e) (List.mem_map.2 ⟨i, hi, rfl⟩)
              simp only [Sem.run_bind]
              cases h1 : (part e us (i * te.size)).run P w with
              | ok a w1 =>
                simp only [h1, Result.andThen_ok] at this ⊢
                cases h2 : (part e vs (i * te.size)).run P w1 with
                | ok a' w2 =>
                  simp only [h2, Result.andThen_ok] at this ⊢
                  simp only [this, Result.andThen_ok]
                  cases bs (i * te.size, e) <;> simp
                | halt => simp [h2, Result.andThen] at this
              | halt => simp [h1, Result.andThen] at this)
          rw [Std.Legacy.Range.forIn_eq_forIn_range']
          simp only [Std.Legacy.Range.size, Nat.sub_zero, Nat.add_sub_cancel, Nat.div_one]
          rw [hfor]
          have hbb : b = (List.range' 0 m 1).all (fun i => bs (i * te.size, e)) := by
            rw [hb, arrFs, List.all_map]; rfl
          simp only [Result.andThen_ok]
          rw [hbb]
          cases (List.range' 0 m 1).all (fun i => bs (i * te.size, e)) <;> simp
        · cases h
      · cases h
theorem aggEq_sound {op : BinOp} {t yt ty : TypeId} {x y : Operand} {dst : Option Tmp} {pos : String} {after : Array Edge} {guard : Option (Nat × Bool)} {env : Env} {a : Act} {d : D} {c : Prop}
    (hg : ∀ x d, opnd env x = some d → Rd E d (a.eval x)) (hia : isAggD (opnd env x) = true) (h : aggEq T op (T t) (opnd env x) (opnd env y) = some (d, c)) (hc : c) :
    ∃ v, (execOp a.eval ⟨dst, .binOp op t x y yt, ty, pos, after, guard⟩).run P E.w = .ok (.value v) E.w ∧ Rd E d v := by
  unfold aggEq at h
  split at h
  · rename_i dx dy hx hy
    have h1 := hg x _ hx
    have h2 := hg y _ hy
    have hxa : ∃ xs, dx = .agg xs := by
      rw [hx] at hia; cases dx <;> simp_all [isAggD]
    obtain ⟨xs, rfl⟩ := hxa
    have main : ∀ b c', eqD T 10 (T t) (.agg xs) dy = some (b, c') → c' → ∃ us vs, a.eval x = .agg us ∧ a.eval y = .agg vs ∧ P.eqGuardType P.depth t = false ∧ (Op.equal t (.agg us) (.agg vs)).run P E.w = .ok b E.w := by
      intro b c' he hc'
      have hrun := eqD_sound hT 10 t _ _ (a.eval x) (a.eval y) b c' he hc' h1 h2 Op.maxDepth (by decide) E.w
      cases hti : T t with
      | none => simp [hti, eqD] at he
      | some ti =>
        simp only [hti, eqD] at he
        have hag : ti.td.isAgg = true ∧ ∃ ys, dy = .agg ys := by
          split at he <;> first | (cases he; done) | contradiction | skip
          · rename_i htd hxs; exact ⟨by simp [htd, TD.isAgg], _, rfl⟩
          · rename_i htd hxs; exact ⟨by simp [htd, TD.isAgg], _, rfl⟩
        obtain ⟨hag, ys, rfl⟩ := hag
        simp only [Rd] at h1 h2
        obtain ⟨us, hu, _⟩ := h1
        obtain ⟨vs, hv, _⟩ := h2
        have heq := (hT.ok t ti hti).eq hag
        simp only [eqOkB, Bool.and_eq_true, Bool.not_eq_true'] at heq
        rw [hu, hv] at hrun
        exact ⟨us, vs, hu, hv, heq.2, hrun⟩
    split at h
    · rename_i b c' he
      obtain ⟨rfl, rfl⟩ := pair_inj h
      obtain ⟨us, vs, e1, e2, e3, e4⟩ := main b c' he hc
      exact ⟨.bool b, by simp [execOp, e1, e2, eqGuard, e3, binOp, e4], by simp [Rd]⟩
    · rename_i b c' he
      obtain ⟨rfl, rfl⟩ := pair_inj h
      obtain ⟨us, vs, e1, e2, e3, e4⟩ := main b c' he hc
      exact ⟨.bool !b, by simp [execOp, e1, e2, eqGuard, e3, binOp, e4], by simp [Rd]⟩
    · cases h
  · cases h
theorem nilCmp_sound {op : BinOp} {t yt ty : TypeId} {x y : Operand} {dst : Option Tmp} {pos : String} {after : Array Edge} {guard : Option (Nat × Bool)} {a : Act} {d : D} {c : Prop} {n cp : Nat} {A : Option Addr}
    (h : nilCmp ((T t).map (·.td)) op n = some (d, c)) (hc : c) (h1 : a.eval x = .slice A n cp) (h2 : a.eval y = .slice none 0 0) (hA : 0 < n → A.isNone = false) :
    ∃ v, (execOp a.eval ⟨dst, .binOp op t x y yt, ty, pos, after, guard⟩).run P E.w = .ok (.value v) E.w ∧ Rd E d v := by
  have go : ∀ e, (T t).map (·.td) = some (.slice e) → (op = .eql ∨ op = .neq) → (execOp a.eval ⟨dst, .binOp op t x y yt, ty, pos, after, guard⟩).run P E.w = .ok (.value (.bool (if op = .eql then A.isNone else !A.isNone))) E.w := by
    intro e htd ho
    cases hti : T t with
    | none => simp [hti] at htd
    | some ti =>
      simp [hti] at htd
      simp [execOp, h1, h2, eqGuard_at_slice, binOp_at_slice op ho ((hT.ok t ti hti).slice htd)]
  unfold nilCmp at h
  split at h
  · rename_i htd
    obtain ⟨rfl, rfl⟩ := pair_inj h
    exact ⟨_, go _ htd (.inl rfl), by simp [Rd, hA hc]⟩
  · rename_i htd
    obtain ⟨rfl, rfl⟩ := pair_inj h
    exact ⟨_, go _ htd (.inr rfl), by simp [Rd, hA hc]⟩
  · cases h
theorem opP_sound {o : Oper} {env : Env} {a : Act} {d : D} {c : Prop} (hg : ∀ x d, opnd env x = some d → Rd E d (a.eval x)) (h : opP T env o.op = some (d, c)) (hc : c) :
    ∃ v, (execOp a.eval o).run P E.w = .ok (.value v) E.w ∧ Rd E d v := by
  obtain ⟨dst, op, ty, pos, after, guard⟩ := o
  simp only at h
  cases op
  case move x =>
    simp only [opP, Option.map_eq_some_iff] at h
    obtain ⟨d', h1, h2⟩ := h
    injection h2 with h2 _; subst h2
    exact ⟨_, by simp [execOp], hg x _ h1⟩
  case assign x =>
    simp only [opP, Option.map_eq_some_iff] at h
    obtain ⟨d', h1, h2⟩ := h
    injection h2 with h2 _; subst h2
    exact ⟨_, by simp [execOp], hg x _ h1⟩
  case pick x y z =>
    obtain ⟨b, h1, h2⟩ := pick_sound h hc (fun d' e => hg x d' e) (fun d' e => hg y d' e) (fun d' e => hg z d' e)
    exact ⟨_, by simp [execOp, h1, asBool], h2⟩
  case unOp op t x =>
    simp only [opP, unD] at h
    split at h
    · rename_i u hu
      cases hz : unV op u with
      | none => simp [hz] at h
      | some z =>
        simp only [hz, Option.map_some] at h
        obtain ⟨rfl, rfl⟩ := pair_inj h
        have := hg x _ hu
        simp only [Rd] at this
        exact ⟨z, by simp [execOp, this, unV_sound hz], by simp [Rd]⟩
    · cases h
  case binOp op t x y yt =>
    simp only [opP] at h
    cases hia : isAggD (opnd env x) with
    | true =>
    rw [hia] at h
    simp only [cond_true] at h
    exact aggEq_sound hT hg hia h hc
    | false =>
    rw [hia] at h
    simp only [cond_false, binD] at h
    split at h
    · rename_i u v hu hv
      cases hz : binV ((T t).map (·.td)) op u v with
      | none => simp [hz] at h
      | some z =>
        obtain ⟨z, c'⟩ := z
        simp only [hz, Option.map_some] at h
        obtain ⟨rfl, rfl⟩ := pair_inj h
        have h1 := hg x _ hu
        have h2 := hg y _ hv
        simp only [Rd] at h1 h2
        obtain ⟨e1, e2⟩ := binV_sound hT hz hc x y E.w
        exact ⟨z, by simp [execOp, h1, h2, e1, e2], by simp [Rd]⟩
    · rename_i n xs hu hv
      have h1 := hg x _ hu
      have h2 := hg y _ hv
      simp only [Rd] at h1 h2
      obtain ⟨_, A, cp, h1, _, _, h3⟩ := h1
      exact nilCmp_sound hT h hc h1 h2 (fun h0 => by obtain ⟨ad, e, _⟩ := h3 h0; rw [e]; rfl)
    · rename_i b off n cp hu hv
      have h1 := hg x _ hu
      have h2 := hg y _ hv
      cases cp with
      | exact c0 es =>
        simp only [Rd] at h1 h2
        obtain ⟨_, h3, _, A, h1, h4⟩ := h1
        exact nilCmp_sound hT h hc h1 h2 (fun h0 => by rw [h4 (by omega)]; rfl)
      | toEnd es =>
        simp only [Rd] at h1 h2
        obtain ⟨_, A, c0, h1, h3, _, _, h4⟩ := h1
        exact nilCmp_sound hT h hc h1 h2 (fun h0 => by rw [h4 (by omega)]; rfl)
    · cases h
  case convert s t x =>
    simp only [opP, convD] at h
    split at h
    · rename_i u hu
      cases hz : convV ((T s).map (·.td)) ((T t).map (·.td)) u with
      | none => simp [hz] at h
      | some z =>
        simp only [hz, Option.map_some] at h
        obtain ⟨rfl, rfl⟩ := pair_inj h
        have := hg x _ hu
        simp only [Rd] at this
        exact ⟨z, by simp [execOp, this, convV_sound hT hz], by simp [Rd]⟩
    · cases h
  case fieldAddr s x f =>
    obtain ⟨v, h1, h2⟩ := fieldAddr_sound hT h hc (fun d' e => hg x d' e) E.w
    exact ⟨v, by simp [execOp, h1], h2⟩
  case field s x f =>
    obtain ⟨v, h1, h2⟩ := field_sound hT h hc (fun d' e => hg x d' e) E.w
    exact ⟨v, by simp [execOp, h1], h2⟩
  case indexAddr t x i =>
    obtain ⟨v, h1, h2⟩ := indexAddr_sound hT h hc (fun d' e => hg x d' e) (fun d' e => hg i d' e) E.w
    exact ⟨v, by simp [execOp, h1], h2⟩
  case index t x i =>
    obtain ⟨v, h1, h2⟩ := index_sound hT h hc (fun d' e => hg x d' e) (fun d' e => hg i d' e) E.w
    exact ⟨v, by simp [execOp, h1], h2⟩
  case load t x =>
    obtain ⟨v, h1, h2⟩ := load_sound hT h hc (fun d' e => hg x d' e)
    exact ⟨v, by simp [execOp, h1], h2⟩
  case extract x i =>
    obtain ⟨v, h1, h2⟩ := extract_sound (P := P) h (fun d' e => hg x d' e) E.w
    exact ⟨v, by simp [execOp, h1], h2⟩
  case slice t x lo hi mx =>
    obtain ⟨v, h1, h2⟩ := slice_sound hT h hc (fun d' e => hg x d' e) (intO_bound hg lo) (intO_bound hg hi) (intO_bound hg mx) E.w
    exact ⟨v, by simp [execOp, h1], h2⟩
  case build t parts =>
    obtain ⟨v, h1, h2⟩ := build_sound hT hg h E.w
    exact ⟨v, by simp only [execOp, Sem.run_bind, h1, Result.andThen_ok, Sem.run_pure], h2⟩
  case makeInterface t x =>
    simp only [opP, ifcD] at h
    split at h
    · rename_i dx hdx
      split at h
      · rename_i ti ht
        split at h
        · cases h
        · rename_i hne
          obtain ⟨rfl, rfl⟩ := pair_inj h
          obtain ⟨dd, h1, h2⟩ := (hT.ok t ti ht).und
          refine ⟨.iface t (a.eval x), ?_, by simp only [Rd]; exact ⟨_, rfl, hg x _ hdx⟩⟩
          have : ∀ ms, dd ≠ .interface ms := fun ms e => by subst e; cases htd : ti.td <;> simp_all [TD.fits]
          simp only [execOp, Instr.makeInterface, Sem.run_bind, run_underlying h1, Result.andThen_ok, Sem.run_pure]
      · cases h
    · cases h
  case makeFunc fn first caps =>
    simp only [opP, funcD] at h
    split at h
    · cases hz : getAll env (first.toList ++ caps.toList) with
      | none => simp [hz] at h
      | some ds =>
        simp only [hz, Option.map_some] at h
        obtain ⟨rfl, rfl⟩ := pair_inj h
        refine ⟨.func (.func _) (first.map a.eval) (caps.map a.eval), by simp [execOp, Instr.makeFunc]; rfl, ?_⟩
        simp only [Rd]
        exact ⟨_, _, rfl, by simp, by simpa using getAll_rd hg _ _ hz⟩
    · cases h
  case nilCheck x =>
    simp only [opP, nilCheckD] at h
    split at h
    · rename_i hx
      obtain ⟨rfl, rfl⟩ := pair_inj h
      have hr := hg x _ hx
      have hr' := hr
      simp only [Rd] at hr'
      refine ⟨a.eval x, ?_, hr⟩
      simp only [execOp]
      rw [hr'.2]; rfl
    · rename_i hx
      obtain ⟨rfl, rfl⟩ := pair_inj h
      have hr := hg x _ hx
      have hr' := hr
      simp only [Rd] at hr'
      obtain ⟨_, ad, e, _⟩ := hr'
      refine ⟨a.eval x, ?_, hr⟩
      simp only [execOp]
      rw [e]; rfl
    · cases h
  case call cl =>
    obtain ⟨callee, args, argTypes⟩ := cl
    cases callee with
    | value f => simp [opP] at h
    | invoke r m => simp [opP] at h
    | builtin b =>
      simp only [opP, callB] at h
      split at h
      · rename_i x t hargs hts
        have e1 : args = #[x] := by rw [← Array.toList_inj, hargs]
        have e2 : argTypes = #[t] := by rw [← Array.toList_inj, hts]
        subst e1; subst e2
        obtain ⟨v, h1, h2⟩ := len_sound hT (ty := ty) h (fun d' e => hg x d' e) E.w
        exact ⟨v, by simp [execOp, resolve, invoke, builtin, h1], h2⟩
      · rename_i x t hargs hts
        have e1 : args = #[x] := by rw [← Array.toList_inj, hargs]
        have e2 : argTypes = #[t] := by rw [← Array.toList_inj, hts]
        subst e1; subst e2
        obtain ⟨v, h1, h2⟩ := cap_sound hT (ty := ty) h (fun d' e => hg x d' e) E.w
        exact ⟨v, by simp [execOp, resolve, invoke, builtin, h1], h2⟩
      · rename_i x y hargs
        have e1 : args = #[x, y] := by rw [← Array.toList_inj, hargs]
        subst e1
        obtain ⟨v, h1, h2⟩ := mm_sound (P := P) h (fun d' e => hg x d' e) (fun d' e => hg y d' e) argTypes ty E.w
        simp only [if_true] at h1
        exact ⟨v, by simp [execOp, resolve, invoke, builtin, h1], h2⟩
      · rename_i x y hargs
        have e1 : args = #[x, y] := by rw [← Array.toList_inj, hargs]
        subst e1
        obtain ⟨v, h1, h2⟩ := mm_sound (P := P) h (fun d' e => hg x d' e) (fun d' e => hg y d' e) argTypes ty E.w
        simp only [Bool.false_eq_true, if_false] at h1
        exact ⟨v, by simp [execOp, resolve, invoke, builtin, h1], h2⟩
      · rename_i x y z r hargs
        obtain ⟨v, h1, h2⟩ := mmA_run (P := P) h (args := args.map a.eval) (fun ds e => by rw [Array.toList_map, hargs]; exact getAll_rd hg _ _ e) argTypes ty E.w
        simp only [if_true] at h1
        exact ⟨v, by simp [execOp, resolve, invoke, builtin, h1], h2⟩
      · rename_i x y z r hargs
        obtain ⟨v, h1, h2⟩ := mmA_run (P := P) h (args := args.map a.eval) (fun ds e => by rw [Array.toList_map, hargs]; exact getAll_rd hg _ _ e) argTypes ty E.w
        simp only [Bool.false_eq_true, if_false] at h1
        exact ⟨v, by simp [execOp, resolve, invoke, builtin, h1], h2⟩
      · cases h
  all_goals (simp [opP] at h)
omit hT
def opSlots (op : Op) : List Nat := op.operands.toList.filterMap fun | .tmp t => some t | _ => none
theorem get_of_lookup {env env' : Env} {op : Op} (h : ∀ t ∈ opSlots op, env.lookup t = env'.lookup t) (x : Operand) (hx : x ∈ op.operands.toList) : opnd env x = opnd env' x := by
  cases x with
  | tmp t => exact h t (by simp only [opSlots, List.mem_filterMap]; exact ⟨.tmp t, hx, rfl⟩)
  | const v => cases v <;> rfl
  | global g => rfl
  | func f => rfl
theorem getAll_congr {env env' : Env} : ∀ (xs : List Operand), (∀ x ∈ xs, opnd env x = opnd env' x) → getAll env xs = getAll env' xs
  | [], _ => rfl
  | x :: xs, h => by simp only [getAll, h x (by simp), getAll_congr xs fun y hy => h y (by simp [hy])]
theorem fillD_congr {env env' : Env} {place : Nat → Option (Nat × Nat)} : ∀ (ps : List (Nat × Operand)) (cs : List D), (∀ p ∈ ps, opnd env p.2 = opnd env' p.2) → fillD place env cs ps = fillD place env' cs ps
  | [], _, _ => rfl
  | (i, x) :: ps, cs, h => by
    have h0 := h (i, x) (by simp)
    simp only at h0
    simp only [fillD, h0]
    split
    · split
      · exact fillD_congr ps _ fun p hp => h p (by simp [hp])
      · rfl
    · rfl
theorem intO_congr {env env' : Env} {x : Option Operand} (h : ∀ y, x = some y → opnd env y = opnd env' y) : intO env x = intO env' x := by
  cases x with
  | none => rfl
  | some x => simp only [intO, h x rfl]
theorem opP_congr {T : Tbl} {env env' : Env} {op : Op} (h : ∀ t ∈ opSlots op, env.lookup t = env'.lookup t) : opP T env op = opP T env' op := by
  have hx := get_of_lookup h
  cases op
  case build t parts =>
    have : ∀ p ∈ parts.toList, opnd env p.2 = opnd env' p.2 := fun p hp => hx p.2 (by simp only [Op.operands, List.toList_toArray, List.mem_map]; exact ⟨p, hp, rfl⟩)
    simp only [opP, buildD, fillD_congr parts.toList _ this]
  case makeFunc fn first caps =>
    have : ∀ x ∈ first.toList ++ caps.toList, opnd env x = opnd env' x := fun x hm => hx x (by simpa [Op.operands] using hm)
    simp only [opP, funcD, getAll_congr _ this]
  case slice t x lo hi mx =>
    have e0 := hx x (by simp [Op.operands])
    have e1 : intO env lo = intO env' lo := intO_congr fun y hy => hx y (by subst hy; simp [Op.operands])
    have e2 : intO env hi = intO env' hi := intO_congr fun y hy => hx y (by subst hy; simp [Op.operands])
    have e3 : intO env mx = intO env' mx := intO_congr fun y hy => hx y (by subst hy; simp [Op.operands])
    simp only [opP, e0, e1, e2, e3]
  case call c =>
    obtain ⟨callee, args, ts⟩ := c
    cases callee with
    | value f => rfl
    | invoke r m => rfl
    | builtin b =>
      have : ∀ x ∈ args.toList, opnd env x = opnd env' x := fun x hm => hx x (by simpa [Op.operands, Call.operands] using hm)
      simp only [opP, callB]
      generalize args.toList = l at this ⊢
      generalize ts.toList = r
      split
      case h_5 => rw [getAll_congr _ this]
      case h_6 => rw [getAll_congr _ this]
      all_goals simp_all
  all_goals first
    | rfl
    | (simp only [opP]; congr 1 <;> first | rfl | exact hx _ (by simp [Op.operands]) | (congr 1 <;> first | rfl | exact hx _ (by simp [Op.operands])))
end
end Go.VD
end
section
namespace Go.VD
set_option linter.unusedVariables false
set_option linter.unusedSimpArgs false
def blkRaw (H : Heap) (b : Nat) : Option Blk := match H[b]? with
  | some (some blk) => some blk
  | _ => none
theorem blkRaw_some {H : Heap} {b : Nat} {blk : Blk} (h : blkRaw H b = some blk) : H[b]? = some (some blk) := by
  unfold blkRaw at h; split at h
  · injection h with h; subst h; assumption
  · cases h
def blkAt (H : Heap) (b : Nat) : Option Blk := match H[b]? with
  | some (some blk) => bif Nat.beq blk.ty itTy then none else some blk
  | _ => none
theorem blkAt_both {H : Heap} {b : Nat} {blk : Blk} (h : blkAt H b = some blk) : H[b]? = some (some blk) ∧ blk.ty ≠ itTy := by
  unfold blkAt at h; split at h
  · rename_i x hx
    cases hb : Nat.beq x.ty itTy with
    | true => rw [hb] at h; cases h
    | false =>
      rw [hb] at h
      injection h with h; subst h
      exact ⟨hx, Nat.ne_of_beq_eq_false hb⟩
  · cases h
theorem blkAt_some {H : Heap} {b : Nat} {blk : Blk} (h : blkAt H b = some blk) : H[b]? = some (some blk) := (blkAt_both h).1
theorem blkAt_ty {H : Heap} {b : Nat} {blk : Blk} (h : blkAt H b = some blk) : blk.ty ≠ itTy := (blkAt_both h).2
theorem blkAt_mk {H : Heap} {b : Nat} {blk : Blk} (h : H[b]? = some (some blk)) (ht : blk.ty ≠ itTy) : blkAt H b = some blk := by
  unfold blkAt; rw [h]
  simp only
  rw [show Nat.beq blk.ty itTy = false from Bool.eq_false_iff.2 fun e => ht (Nat.eq_of_beq_eq_true e)]
  rfl
def makeD (zero : List Value) (n : Nat) : List D :=
  match zero with
  | [z] => List.replicate n (.v z)
  | zs => (List.range (n * zs.length)).map fun i => .v (zs.getD (i % zs.length) undef)
def srcD (H : Heap) (es : Nat) : Option D → Option (Nat × List D × Prop)
  | some (.ro m ys) => some (m, ys.take (m * es), m * es ≤ ys.length)
  | some (.sl b off m _) => match blkAt H b with
    | some blk => some (m, (blk.cs.drop off).take (m * es), off + m * es ≤ blk.cs.length)
    | none => none
  | some (.v (.slice _ 0 _)) => some (0, [], True)
  | _ => none
inductive Tch where
  | no
  | rd (b : Nat)
  | wr (b : Nat)
  | mk (n : Nat)
  | ra
  | al
structure HOut where
  d : D
  H : Heap
  touch : Tch
  c : Prop
def boxH (H : Heap) (elem : TypeId) : Option (List D) → Option HOut
  | some cs => bif Nat.beq elem itTy then none else some ⟨.ptr H.length 0, H ++ [some ⟨elem, cs, true⟩], .mk H.length, True⟩
  | none => none
def loadH (H : Heap) (t : Option TI) : Option D → Option HOut
  | some (.ptr b off) => match blkAt H b, t with
    | some blk, some ti => some ⟨(partD ti blk.cs off).1, H, .rd b, (partD ti blk.cs off).2⟩
    | _, _ => none
  | _ => none
def storeH (H : Heap) (t : Option TI) (ys : Option (List D)) : Option D → Option HOut
  | some (.ptr b off) => match blkAt H b, t, ys with
    | some blk, some ti, some ys => some ⟨.v undef, H.set b (some ⟨blk.ty, setAll blk.cs off ys, blk.full⟩), .wr b, ys.length = ti.size ∧ off + ti.size ≤ blk.cs.length⟩
    | _, _, _ => none
  | _ => none
def makeH (T : Tbl) (H : Heap) (t : Option TI) : Option D → Option D → Option HOut
  | some (.v (.int _ n)), some (.v (.int _ m)) => match t with
    | some ⟨.slice e, _, _, _⟩ => match T e with
      | some ti => some ⟨.sl H.length 0 n.toNat (.toEnd ti.size), H ++ [some ⟨e, makeD ti.zero m.toNat, true⟩], .mk H.length, 0 ≤ n ∧ n ≤ m ∧ (ti.bytes : Int) * m ≤ 281474976710656 ∧ m ≤ 9223372036854775807⟩
      | none => none
    | _ => none
  | _, _ => none
def buildSliceH (T : Tbl) (env : Env) (H : Heap) (t : Option TI) (len : Nat) (parts : List (Nat × Operand)) : Option HOut :=
  match t with
  | some ⟨.slice e, _, _, _⟩ => match T e with
    | some ti => match fillD (fun i => some (i * ti.size, ti.size)) env (makeD ti.zero len) parts with
      | some cs => some ⟨.sl H.length 0 len (.toEnd ti.size), H ++ [some ⟨e, cs, true⟩], .mk H.length, len * ti.size ≤ 16777216 ∧ len ≤ maxLen⟩
      | none => none
    | none => none
  | _ => none
def strD (s : ByteArray) : List D := s.data.toList.map fun b => .v (.int .u8 (b.toNat : Nat))
def appendS (T : Tbl) (H : Heap) (b n es : Nat) (t' : TypeId) (e : TypeId) (te : TI) (blk : Blk) (s : ByteArray) : Option HOut :=
  match T t' with
  | some ⟨.str, _, _, _⟩ => match te with
    | ⟨.int .u8, 1, 1, _⟩ => some ⟨.sl H.length 0 (n + s.size) (.toEnd 1), H.set b none ++ [some ⟨e, blk.cs.take n ++ strD s, false⟩], .al,
        es = 1 ∧ blk.ty = e ∧ n ≤ blk.cs.length ∧ n + s.size ≤ maxLen ∧ n + s.size ≤ 140737488355328⟩
    | _ => none
  | _ => none
def srcStr (o : Option HOut) (f : ByteArray → Option HOut) : Option D → Option HOut
  | some (.v (.string s)) => f s
  | _ => o
def appendH (T : Tbl) (H : Heap) (t t' : Option TypeId) (ti : Option TI) (src : Option D) : Option D → Option HOut
  | some (.sl b 0 n (.toEnd es)) => match t, t', ti with
    | some t, some t', some ⟨.slice e, _, _, _⟩ => match T e, blkAt H b with
      | some te, some blk => match srcD H te.size src with
        | some (m, news, c) => some ⟨.sl H.length 0 (n + m) (.toEnd te.size), H.set b none ++ [some ⟨e, blk.cs.take (n * te.size) ++ news, false⟩], .al,
            c ∧ t = t' ∧ es = te.size ∧ blk.ty = e ∧ n * te.size ≤ blk.cs.length ∧ 0 < te.size ∧ n + m ≤ maxLen ∧ (n + m) * te.bytes ≤ 140737488355328⟩
        | none => srcStr none (appendS T H b n es t' e te blk) src
      | _, _ => none
    | _, _, _ => none
  | some (.v (.slice none 0 0)) => match t, t', ti with
    | some t, some t', some ⟨.slice e, _, _, _⟩ => match T e with
      | some te => match srcD H te.size src with
        | some (m, news, c) => some ⟨.sl H.length 0 m (.toEnd te.size), H ++ [some ⟨e, news, false⟩], .al,
            c ∧ t = t' ∧ 0 < te.size ∧ m ≤ maxLen ∧ m * te.bytes ≤ 140737488355328⟩
        | none => none
      | none => none
    | _, _, _ => none
  | _ => none
def strOf (ds : List D) : ByteArray := ⟨(ds.map fun d => UInt8.ofNat (cellInt d).toNat).toArray⟩
def AllU8 (ds : List D) : Prop := ∀ d ∈ ds, IsInt .u8 d
def tchOf : Option D → Tch
  | some (.sl b _ _ _) => .rd b
  | _ => .no
def bytesH (T : Tbl) (H : Heap) (s d : Option TI) (x : Option D) : Option HOut :=
  match s, d with
  | some ⟨.slice e, _, _, _⟩, some ⟨.str, _, _, _⟩ => match T e with
    | some ⟨.int .u8, _, _, _⟩ => match srcD H 1 x with
      | some (_, news, c) => some ⟨.v (.string (strOf news)), H, tchOf x, c ∧ AllU8 news⟩
      | none => none
    | _ => none
  | _, _ => none
def itBlk (s : ByteArray) (n : Int) : Option Blk := some ⟨itTy, [.v (.string s), .v (.int .i64 n)], true⟩
def rangeH (H : Heap) (t : Option TI) : Option D → Option HOut
  | some (.v (.string s)) => match t with
    | some ⟨.str, _, _, _⟩ => some ⟨.ptr H.length 0, H ++ [itBlk s 0], .mk H.length, True⟩
    | _ => none
  | _ => none
def iterAt (H : Heap) (b : Nat) : Option (ByteArray × Int) := match blkRaw H b with
  | some ⟨ty, [.v (.string s), .v (.int .i64 n)], true⟩ => bif Nat.beq ty itTy then some (s, n) else none
  | _ => none
theorem iterAt_some {H : Heap} {b : Nat} {s : ByteArray} {n : Int} (h : iterAt H b = some (s, n)) : H[b]? = some (itBlk s n) := by
  unfold iterAt at h
  split at h
  · rename_i ty s' n' hb
    have hb := blkRaw_some hb
    cases hbe : Nat.beq ty itTy with
    | false => rw [hbe] at h; cases h
    | true =>
      rw [hbe] at h
      have : ty = itTy := Nat.eq_of_beq_eq_true hbe
      rw [this] at hb
      simp only [cond_true, Option.some.injEq, Prod.mk.injEq] at h
      obtain ⟨h1, h2⟩ := h
      rw [← h1, ← h2]
      exact hb
  · cases h
def nextD (s : ByteArray) (n : Int) (b : Bool) : D := bif b then .tup [.v (.bool true), .v (.int .i64 n), .v (.int .i32 ((Utf8.decode s n.toNat).1 : Nat))] else .tup [.v (.bool false)]
def nextN (s : ByteArray) (n : Int) (b : Bool) : Int := bif b then ((n.toNat + (Utf8.decode s n.toNat).2 : Nat) : Int) else n
def nextH (H : Heap) : Option D → Option HOut
  | some (.ptr b 0) => match iterAt H b with
    | some (s, n) => some ⟨nextD s n (decide (n.toNat < s.size)), H.set b (itBlk s (nextN s n (decide (n.toNat < s.size)))), .wr b, True⟩
    | none => none
  | _ => none
def opH (T : Tbl) (env : Env) (H : Heap) : Op → Option HOut
  | .range t x => rangeH H (T t) (opnd env x)
  | .next it true => nextH H (opnd env it)
  | .convert s d x => bytesH T H (T s) (T d) (opnd env x)
  | .box elem x => boxH H elem ((opnd env x).bind cellsD)
  | .alloc elem => match T elem with
    | some ti => some ⟨.ptr H.length 0, H ++ [some ⟨elem, ti.zero.map .v, true⟩], .mk H.length, True⟩
    | none => none
  | .load t x => loadH H (T t) (opnd env x)
  | .store t x y => storeH H (T t) ((opnd env y).bind cellsD) (opnd env x)
  | .makeSlice t l c => makeH T H (T t) (opnd env l) (opnd env c)
  | .buildSlice t len parts => buildSliceH T env H (T t) len parts.toList
  | .call { callee := .builtin .append, args, argTypes } => match args.toList with
    | [s, x] => appendH T H argTypes.toList[0]? argTypes.toList[1]? (argTypes.toList[0]?.bind T) (opnd env x) (opnd env s)
    | _ => none
  | _ => none
def RunsTo (P : Program) (o : Oper) (a : Act) (w : World) (v : Value) (w' : World) : Prop :=
  (execOp a.eval o).run P w = .ok (.value v) w' ∨ ((execOp a.eval o).run P w = .ok .skip w' ∧ v = undef)
def Gives (P : Program) (o : Oper) (a : Act) (ρ : Nat → Nat × Nat) (S : Nat → Prop) (w : World) (H H' : Heap) (d : D) : Prop :=
  ∃ v w' ρ', RunsTo P o a w v w' ∧ St ρ' S w' H' ∧ (ctx ρ S w H).le (ctx ρ' S w' H') ∧ Rd (ctx ρ' S w' H') d v
section
variable {P : Program} {T : Tbl} (hT : TblOk P T) {ρ : Nat → Nat × Nat} {S : Nat → Prop} {w : World} {H : Heap}
theorem heap_new (w : World) (o : Obj) : (w.alloc o).heap[w.heap.size]? = some o := heap_alloc_new w o
theorem new_block {ty : TypeId} {cs : List D} {vs : Array Value} (hty : ty ≠ itTy) (hS : St ρ S w H) (hl : RdL (ctx ρ S w H) cs vs.toList) :
    ∃ ρ', St ρ' S (w.alloc (.cells vs ty)) (H ++ [some ⟨ty, cs, true⟩]) ∧ (ctx ρ S w H).le (ctx ρ' S (w.alloc (.cells vs ty)) (H ++ [some ⟨ty, cs, true⟩])) ∧ ρ' H.length = (w.heap.size, vs.size) := by
  have hn : cs.length = vs.toList.length := hl.length.symm
  refine ⟨ext ρ H.length (w.heap.size, vs.size), hS.new (blk := ⟨ty, cs, true⟩) (Grow.alloc w _) (Nat.le_refl _) hty (heap_new w _) ?_ (fun _ => by simpa using hn), le_new (fun k hk => (hS.sub k hk).1) (Grow.alloc w _) (Nat.le_refl _), ext_same _ _ _⟩
  simp only [hn, List.take_length]; exact hl
theorem rd_ptr {ρ' : Nat → Nat × Nat} {w' : World} {H' : Heap} {b id sz off : Nat} (hb : b < H'.length) (h : ρ' b = (id, sz)) : Rd (ctx ρ' S w' H') (.ptr b off) (.pointer (some ⟨id, off, none⟩)) := by
  simp only [Rd]; exact ⟨hb, by simp [h]⟩
theorem load_blk {b off : Nat} {blk : Blk} {t : TypeId} {ti : TI} (hS : St ρ S w H) (hb : H[b]? = some (some blk)) (hit : blk.ty ≠ itTy) (ht : TiOk P t ti) (hc : (partD ti blk.cs off).2) :
    ∃ v, (loadVar t ⟨(ρ b).1, off, none⟩).run P w = .ok v w ∧ Rd (ctx ρ S w H) (partD ti blk.cs off).1 v := by
  by_cases hz : (ρ b).2 = 0
  · have hcs := hS.none b blk hb hz
    rw [hcs] at hc ⊢
    cases hagg : ti.td.isAgg with
    | true =>
      rw [partD_agg hagg] at hc ⊢
      simp only [List.length_nil] at hc
      have h0 : ti.size = 0 := by omega
      refine ⟨.agg #[], ?_, by simp only [Rd]; exact ⟨#[], rfl, by simp [RdL]⟩⟩
      simp [loadVar, ht.run_isAgg, hagg, ht.run_size, h0, loadCells, loadCellsFrom]
    | false =>
      have := (partD_one hagg hc).1
      simp at this
  · obtain ⟨cur, hk⟩ := hS.blk b blk hb (by omega)
    have hcell : ∀ i d, blk.cs[i]? = some d → ∃ u, w.cell? ((⟨(ρ b).1, 0, none⟩ : Addr).add (0 + i)) = some u ∧ u.oneCell' = true ∧ Rd (ctx ρ S w H) d u := by
      intro i d hi
      obtain ⟨u, hu, ho, hd⟩ := hk.pre.get _ _ i d hi
      refine ⟨u, ?_, ho, hd⟩
      rw [Nat.zero_add]
      have hadd : (⟨(ρ b).1, 0, none⟩ : Addr).add i = ⟨(ρ b).1, i, none⟩ := by unfold Addr.add; split <;> simp_all
      have hh := hk.heap.cells hit
      simp only [ctx] at hh
      rw [hadd, cell_of_row w (ρ b).1 i cur blk.ty (0, 0) hh]
      rw [List.getElem?_take] at hu
      split at hu
      · simpa using hu
      · cases hu
    have hat : RdAt (ctx ρ S w H) blk.cs ⟨(ρ b).1, 0, none⟩ 0 := RdAt.mk _ _ _ hcell
    obtain ⟨v, h1, h2⟩ := hat.part (P := P) ht hc
    have hadd : (⟨(ρ b).1, 0, none⟩ : Addr).add off = ⟨(ρ b).1, off, none⟩ := by unfold Addr.add; split <;> simp_all
    rw [hadd] at h1
    exact ⟨v, h1, h2⟩
theorem setAll_segment : ∀ (ys cs : List D) (off : Nat), off + ys.length ≤ cs.length → setAll cs off ys = cs.take off ++ ys ++ cs.drop (off + ys.length)
  | [], cs, off, h => by simp [setAll]
  | y :: ys, cs, off, h => by
    simp only [List.length_cons] at h
    simp only [setAll]
    rw [setAll_segment ys _ _ (by simp; omega)]
    have hlt : off < cs.length := by omega
    rw [List.set_eq_take_append_cons_drop, if_pos hlt]
    have e1 : (cs.take off ++ y :: cs.drop (off + 1)).take (off + 1) = cs.take off ++ [y] := by
      rw [List.take_append]
      simp only [List.length_take, Nat.min_eq_left (Nat.le_of_lt hlt)]
      rw [List.take_of_length_le (by simp; omega)]
      simp
    have e2 : (cs.take off ++ y :: cs.drop (off + 1)).drop (off + 1 + ys.length) = cs.drop (off + (ys.length + 1)) := by
      rw [List.drop_append]
      simp only [List.length_take, Nat.min_eq_left (Nat.le_of_lt hlt)]
      rw [List.drop_of_length_le (by simp; omega)]
      have : off + 1 + ys.length - off = ys.length + 1 := by omega
      rw [this, List.nil_append, List.drop_succ_cons, List.drop_drop]
      congr 1; omega
    rw [e1, e2]
    simp [Nat.add_comm, Nat.add_left_comm, Nat.add_assoc]
theorem store_blk {b off : Nat} {blk : Blk} {t : TypeId} {ti : TI} {ys : List D} {x : Value} (hS : St ρ S w H) (hb : H[b]? = some (some blk)) (hit : blk.ty ≠ itTy) (ht : TiOk P t ti) (hl : RdL (ctx ρ S w H) ys x.cells.toList)
    (hlen : ys.length = ti.size) (hin : off + ti.size ≤ blk.cs.length) :
    ∃ w', (storeVar t ⟨(ρ b).1, off, none⟩ x).run P w = .ok () w' ∧ St ρ S w' (H.set b (some ⟨blk.ty, setAll blk.cs off ys, blk.full⟩)) ∧ (ctx ρ S w H).le (ctx ρ S w' (H.set b (some ⟨blk.ty, setAll blk.cs off ys, blk.full⟩))) := by
  have hxl := hl.length
  have hsz : x.cells.size = ti.size := by rw [← Array.length_toList, hxl, hlen]
  by_cases hz : (ρ b).2 = 0
  · have hcs := hS.none b blk hb hz
    rw [hcs] at hin
    have h0 : ti.size = 0 := by simp only [List.length_nil] at hin; omega
    have hys : ys = [] := List.eq_nil_of_length_eq_zero (by omega)
    have hxs : x.cells.toList = [] := List.eq_nil_of_length_eq_zero (by omega)
    subst hys
    have hset : H.set b (some ⟨blk.ty, setAll blk.cs off [], blk.full⟩) = H := by
      have : (⟨blk.ty, setAll blk.cs off [], blk.full⟩ : Blk) = blk := by simp [setAll]
      rw [this]
      exact List.ext_getElem? fun i => by
        by_cases hi : b = i
        · subst hi; rw [List.getElem?_set_self (List.getElem?_eq_some_iff.1 hb).1, hb]
        · rw [List.getElem?_set_ne hi]
    rw [hset]
    refine ⟨w, ?_, hS, Ctx.le.refl _⟩
    simp [storeVar, ht.run_size, hsz, hxs, storeCells]
  · obtain ⟨cur, hk⟩ := hS.blk b blk hb (by omega)
    have hh := hk.heap.cells hit
    simp only [ctx] at hh
    have hpl := hk.pre.length
    have hcur : blk.cs.length ≤ cur.size := by simp at hpl; omega
    have hst := run_storeCells_at (P := P) (ρ b).1 off blk.ty x.cells.toList 0 cur w hh (by simp; omega) (hl.one)
    have hrun : (storeVar t ⟨(ρ b).1, off, none⟩ x).run P w = .ok () (w.setRow (ρ b).1 (cur.toList.take off ++ x.cells.toList ++ cur.toList.drop (off + x.cells.toList.length)).toArray) := by
      simp only [storeVar, Sem.run_bind, ht.run_size, Result.andThen_ok, hsz, ne_eq, not_true_eq_false, if_false]
      simpa using hst
    have hsize : (w.setRow (ρ b).1 (cur.toList.take off ++ x.cells.toList ++ cur.toList.drop (off + x.cells.toList.length)).toArray).heap.size = w.heap.size := by simp [World.setRow]
    have hother : ∀ k, k ≠ (ρ b).1 → (w.setRow (ρ b).1 (cur.toList.take off ++ x.cells.toList ++ cur.toList.drop (off + x.cells.toList.length)).toArray).heap[k]? = w.heap[k]? := fun k hk => setRow_other w _ k _ hk
    refine ⟨_, hrun, ?_, le_write hS.sub hb (by omega) hsize hother rfl rfl rfl⟩
    have hseg := setAll_segment ys blk.cs off (by omega)
    refine hS.write (cur := (cur.toList.take off ++ x.cells.toList ++ cur.toList.drop (off + x.cells.toList.length)).toArray) hit hb (by omega) hsize hother rfl rfl rfl (setRow_heap w _ cur _ blk.ty _ hh) ?_ ?_ ?_
    · have := hk.size; simp; omega
    · show RdL (ctx ρ S w H) (setAll blk.cs off ys) (List.take (setAll blk.cs off ys).length _)
      rw [setAll_length, hseg]
      simp only [List.toList_toArray]
      have e : (cur.toList.take off ++ x.cells.toList ++ cur.toList.drop (off + x.cells.toList.length)).take blk.cs.length =
          (cur.toList.take blk.cs.length).take off ++ x.cells.toList ++ (cur.toList.take blk.cs.length).drop (off + ys.length) := by
        apply List.ext_getElem?
        intro i
        simp only [List.getElem?_take, List.getElem?_append, List.length_append, List.length_take, List.getElem?_drop, Array.length_toList]
        rw [show x.cells.size = ys.length by omega]
        by_cases h1 : i < blk.cs.length
        · simp only [h1, if_true]
          have m1 : min off cur.size = off := by omega
          have m2 : min off (min blk.cs.length cur.size) = off := by omega
          simp only [m1, m2]
          by_cases h2 : i < off + ys.length
          · simp only [h2, if_true]
          · simp only [h2, if_false]
            have h4 : off + ys.length + (i - (off + ys.length)) < blk.cs.length := by omega
            simp [h4]
        · simp only [h1, if_false]
          have m2 : min off (min blk.cs.length cur.size) = off := by omega
          simp only [m2]
          have h2 : ¬ i < off + ys.length := by omega
          simp only [h2, if_false]
          have h4 : ¬ off + ys.length + (i - (off + ys.length)) < blk.cs.length := by omega
          simp [h4]
      rw [e]
      exact RdL.append _ _ _ _ (RdL.append _ _ _ _ (hk.pre.take off) hl) (hk.pre.drop _)
    · intro hf
      have := hk.full hf
      simp [setAll_length]; omega
end
end Go.VD
end
