/- The theorem over all operations that touch none of the call's own blocks. -/
import Derived.Test.YthnhfkpihbjddaaVe
namespace Go.VD
set_option linter.unusedVariables false
set_option linter.unusedSimpArgs false

def szOf (T : Tbl) (t : TypeId) : Nat := match T t with | some ti => ti.size | none => 0

section
variable {P : Program} {T : Tbl} (hT : TblOk P T) {E : Ctx}

theorem pick_sound {dc da db : Option D} {d : D} {c : Prop} (h : pickD dc da db = some (d, c)) (hc : c) {x y z : Value} (hx : ∀ d', dc = some d' → Rd E d' x) (hy : ∀ d', da = some d' → Rd E d' y) (hz : ∀ d', db = some d' → Rd E d' z) :
    ∃ b, x = .bool b ∧ Rd E d (if b then y else z) := by
  unfold pickD at h
  split at h
  · rename_i b p q
    obtain ⟨rfl, rfl⟩ := pair_inj h
    have h1 := hx _ rfl
    have h2 := hy _ rfl
    have h3 := hz _ rfl
    simp only [Rd] at h1 h2 h3
    refine ⟨b, h1, ?_⟩
    simp only [Rd]
    cases b
    · simpa using h3
    · simpa using h2
  · rename_i b da db _
    obtain ⟨rfl, rfl⟩ := pair_inj h
    have h1 := hx _ rfl
    have h2 := hy _ rfl
    have h3 := hz _ rfl
    simp only [Rd] at h1
    refine ⟨b, h1, ?_⟩
    cases b
    · simpa using h3
    · simpa using h2
  · rename_i b da
    obtain ⟨rfl, rfl⟩ := pair_inj h
    have h1 := hx _ rfl
    have h2 := hy _ rfl
    simp only [Rd] at h1
    exact ⟨b, h1, by rw [hc]; exact h2⟩
  · rename_i b db
    obtain ⟨rfl, rfl⟩ := pair_inj h
    have h1 := hx _ rfl
    have h2 := hz _ rfl
    simp only [Rd] at h1
    exact ⟨b, h1, by rw [hc]; exact h2⟩
  · cases h

theorem fill_sound {env : Env} {ev : Operand → Value} (hg : ∀ x d, opnd env x = some d → Rd E d (ev x)) {place : Nat → Option (Nat × Nat)} :
    ∀ (parts : List (Nat × Operand)) (cs : List D) (vs : Array Value) (out : List D), fillD place env cs parts = some out → RdL E cs vs.toList →
      ∃ ws : Array Value, Instr.fill place vs (parts.map fun p => (p.1, ev p.2)) = some ws ∧ RdL E out ws.toList
  | [], cs, vs, out, h, hcs => by
    simp only [fillD] at h; injection h with h; subst h
    exact ⟨vs, by simp [Instr.fill], hcs⟩
  | (i, x) :: rest, cs, vs, out, h, hcs => by
    simp only [fillD] at h
    split at h
    · rename_i off size ys hp hys
      split at h
      · rename_i hlen
        cases hgx : opnd env x with
        | none => simp [hgx] at hys
        | some dx =>
          simp only [hgx, Option.bind_some] at hys
          have hl := cellsD_rd hys (hg x dx hgx)
          have hn := hl.length
          have hcn := hcs.length
          have hsz : (ev x).cells.size = size := by rw [← Array.length_toList, hn]; exact hlen.1
          have hvs : vs.size = cs.length := by rw [← Array.length_toList, hcn]
          obtain ⟨ws, h1, h2⟩ := fill_sound hg rest _ _ out h (by
            have := setAll_rd (E := E) ys (ev x).cells.toList cs vs off 0 hl hcs
            simpa using this)
          refine ⟨ws, ?_, h2⟩
          simp only [List.map_cons, Instr.fill, hp]
          rw [if_neg (by simp [hsz]; omega)]
          rw [← h1]
          congr 1
          rw [← Array.foldl_toList]
          simp
      · cases h
    · cases h

def placesOf (T : Tbl) (l : List Field) : List (Nat × Nat) := l.map fun (f : Field) => (f.offset, szOf T f.type)
include hT
theorem run_places : ∀ (l : List Field), (∀ f ∈ l, (T f.type).isSome = true) → ∀ w, (l.mapM fun (f : Field) => (do pure (f.offset, ← sizeOf f.type) : Sem (Nat × Nat))).run P w = .ok (placesOf T l) w
  | [], _, w => by simp [placesOf]
  | f :: r, h, w => by
    obtain ⟨ti, hti⟩ := Option.isSome_iff_exists.1 (h f (by simp))
    have ih := run_places r (fun g hg => h g (by simp [hg])) w
    simp only [List.mapM_cons, Sem.run_bind, (hT.ok _ _ hti).run_size, Sem.run_pure, Result.andThen_ok, ih]
    simp [placesOf, szOf, hti]
theorem build_sound {env : Env} {ev : Operand → Value} (hg : ∀ x d, opnd env x = some d → Rd E d (ev x)) {t : TypeId} {parts : Array (Nat × Operand)} {d : D} {c : Prop} (h : buildD T env (T t) parts.toList = some (d, c)) (w : World) :
    ∃ v, (Instr.build t (parts.map fun (i, x) => (i, ev x))).run P w = .ok v w ∧ Rd E d v := by
  have hparts : (parts.map fun (p : Nat × Operand) => (p.1, ev p.2)).toList = parts.toList.map fun p => (p.1, ev p.2) := by simp
  have hz : ∀ (ti : TI), T t = some ti → ∃ z : Value, (∀ w, (zeroValue t).run P w = .ok z w) ∧ RdL E (ti.zero.map .v) z.cells.toList := fun ti ht => by
    obtain ⟨z, h1, h2⟩ := (hT.ok t ti ht).run_zero
    refine ⟨z, h2, ?_⟩
    rw [h1]
    exact RdL.scalars E _ (by rw [List.all_eq_true]; exact (hT.ok t ti ht).one)
  unfold buildD at h
  split at h
  · rename_i fs _ _ zero ht
    split at h
    · rename_i hall
      obtain ⟨z, hz1, hz2⟩ := hz _ ht
      cases hf : fillD (placeD T fs) env (zero.map .v) parts.toList with
      | none => simp [hf] at h
      | some cs =>
        simp only [hf, Option.map_some] at h
        obtain ⟨rfl, rfl⟩ := pair_inj h
        obtain ⟨F, hF, hm⟩ := (hT.ok t _ ht).struct rfl
        have hall' : ∀ f ∈ F.toList, (T f.type).isSome = true := by
          intro f hfm
          rw [← hm, List.all_map, List.all_eq_true] at hall
          exact hall f hfm
        have hmap : (F.mapM fun (f : Field) => (do pure (f.offset, ← sizeOf f.type) : Sem (Nat × Nat))).run P w = .ok (placesOf T F.toList).toArray w := by
          rw [Array.mapM_eq_mapM_toList]
          simp only [Sem.run_map, run_places hT F.toList hall', Result.andThen_ok]
        have hplace : ∀ i p, placeD T fs i = some p → (placesOf T F.toList).toArray[i]? = some p := by
          intro i p hp
          unfold placeD at hp
          split at hp
          · rename_i off ft hfs
            split at hp
            · rename_i ti hti
              injection hp with hp; subst hp
              rw [← hm] at hfs
              simp only [List.getElem?_map] at hfs
              cases hFi : F.toList[i]? with
              | none => simp [hFi] at hfs
              | some f =>
                simp only [hFi, Option.map_some, Option.some.injEq, Prod.mk.injEq] at hfs
                simp only [List.getElem?_toArray, placesOf, List.getElem?_map, hFi, Option.map_some, hfs.2, hti, hfs.1, szOf]
            · cases hp
          · cases hp
        have hplace' : placeD T fs = fun i => (placesOf T F.toList).toArray[i]? := by
          funext i
          cases hp : placeD T fs i with
          | some p => exact (hplace i p hp).symm
          | none =>
            unfold placeD at hp
            simp only [List.getElem?_toArray, placesOf, List.getElem?_map]
            cases hFi : F.toList[i]? with
            | none => rfl
            | some f =>
              exfalso
              have hs := hall' f (List.mem_of_getElem? hFi)
              obtain ⟨ti, hti⟩ := Option.isSome_iff_exists.1 hs
              rw [← hm] at hp
              simp [hFi, hti] at hp
        obtain ⟨ws, h1, h2⟩ := fill_sound (E := E) hg parts.toList _ z.cells _ hf hz2
        rw [hplace'] at h1
        refine ⟨.agg ws, ?_, by simp only [Rd]; exact ⟨ws, rfl, h2⟩⟩
        simp only [Instr.build, Sem.run_bind, hz1, Result.andThen_ok, run_underlying hF, hmap, Sem.run_pure]
        rw [hparts, h1]
        rfl
    · cases h
  · rename_i n e _ _ zero ht
    split at h
    · rename_i ti hte
      obtain ⟨z, hz1, hz2⟩ := hz _ ht
      cases hf : fillD (fun i => some (i * ti.size, ti.size)) env (zero.map .v) parts.toList with
      | none => simp [hf] at h
      | some cs =>
        simp only [hf, Option.map_some] at h
        obtain ⟨rfl, rfl⟩ := pair_inj h
        obtain ⟨ws, h1, h2⟩ := fill_sound (E := E) hg parts.toList _ z.cells _ hf hz2
        refine ⟨.agg ws, ?_, by simp only [Rd]; exact ⟨ws, rfl, h2⟩⟩
        simp only [Instr.build, Sem.run_bind, hz1, Result.andThen_ok, run_underlying ((hT.ok t _ ht).arr rfl), (hT.ok e _ hte).run_size, Sem.run_pure]
        rw [hparts, h1]
        rfl
    · cases h
  · cases h

theorem len_sound {t ty : TypeId} {dx : Option D} {d : D} {c : Prop} (h : lenD (T t) dx = some (d, c)) {x : Value} (hx : ∀ d', dx = some d' → Rd E d' x) (w : World) :
    ∃ v, (Builtin.len_ #[t] ty #[x]).run P w = .ok v w ∧ Rd E d v := by
  unfold lenD at h
  split at h <;> (try (cases h; done)) <;> split at h <;> (try (cases h; done)) <;> obtain ⟨rfl, rfl⟩ := pair_inj h <;> rename_i ht <;> have hr := hx _ rfl
  · simp only [Rd] at hr; obtain ⟨_, A, cp, rfl, _⟩ := hr
    exact ⟨_, by simp [Builtin.len_, run_underlying ((hT.ok t _ ht).slice rfl)]; rfl, by simp [Rd, goInt]⟩
  · rename_i b off n cp _ _ _ _ _
    have : ∃ A c, x = .slice A n c := by
      cases cp <;> simp only [Rd] at hr
      · obtain ⟨_, _, _, A, h, _⟩ := hr; exact ⟨A, _, h⟩
      · obtain ⟨_, A, c, h, _⟩ := hr; exact ⟨A, c, h⟩
    obtain ⟨A, c, rfl⟩ := this
    exact ⟨_, by simp [Builtin.len_, run_underlying ((hT.ok t _ ht).slice rfl)]; rfl, by simp [Rd, goInt]⟩
  · simp only [Rd] at hr; subst hr
    exact ⟨_, by simp [Builtin.len_, run_underlying ((hT.ok t _ ht).str rfl)]; rfl, by simp [Rd, goInt]⟩
  · simp only [Rd] at hr; subst hr
    exact ⟨_, by simp [Builtin.len_, run_underlying ((hT.ok t _ ht).slice rfl)]; rfl, by simp [Rd, goInt]⟩
theorem cap_sound {t ty : TypeId} {dx : Option D} {d : D} {c : Prop} (h : capV (T t) dx = some (d, c)) {x : Value} (hx : ∀ d', dx = some d' → Rd E d' x) (w : World) :
    ∃ v, (Builtin.cap_ #[t] ty #[x]).run P w = .ok v w ∧ Rd E d v := by
  unfold capV at h
  split at h <;> (try (cases h; done)) <;> split at h <;> (try (cases h; done)) <;> obtain ⟨rfl, rfl⟩ := pair_inj h <;> rename_i ht <;> have hr := hx _ rfl
  · simp only [Rd] at hr; obtain ⟨_, _, _, A, rfl, _⟩ := hr
    exact ⟨_, by simp [Builtin.cap_, run_underlying ((hT.ok t _ ht).slice rfl)]; rfl, by simp [Rd, goInt]⟩
  · simp only [Rd] at hr; subst hr
    exact ⟨_, by simp [Builtin.cap_, run_underlying ((hT.ok t _ ht).slice rfl)]; rfl, by simp [Rd, goInt]⟩
omit hT
theorem mm_sound {isMax : Bool} {dx dy : Option D} {d : D} {c : Prop} (h : mm2 isMax dx dy = some (d, c)) {x y : Value} (hx : ∀ d', dx = some d' → Rd E d' x) (hy : ∀ d', dy = some d' → Rd E d' y) (ts : Array TypeId) (ty : TypeId) (w : World) :
    ∃ v, (if isMax then Builtin.max_ ts ty #[x, y] else Builtin.min_ ts ty #[x, y]).run P w = .ok v w ∧ Rd E d v := by
  unfold mm2 at h
  split at h
  · rename_i k a l b
    split at h
    · rename_i hk; subst hk
      obtain ⟨rfl, rfl⟩ := pair_inj h
      have h1 := hx _ rfl
      have h2 := hy _ rfl
      simp only [Rd] at h1 h2
      subst h1; subst h2
      cases isMax
      · refine ⟨.int k (min a b), ?_, by simp [Rd]⟩
        simp only [Bool.false_eq_true, if_false, Builtin.min_]
        have e : (if b < a then b else a) = min a b := by split <;> omega
        simp [Builtin.min2, e]
      · refine ⟨.int k (max a b), ?_, by simp [Rd]⟩
        simp only [if_true, Builtin.max_]
        have e : (if b > a then b else a) = max a b := by split <;> omega
        simp [Builtin.max2, e]
    · cases h
  · cases h
theorem mm2_run {isMax : Bool} {dx dy d : D} {c : Prop} (h : mm2 isMax (some dx) (some dy) = some (d, c)) {x y : Value} (hx : Rd E dx x) (hy : Rd E dy y) (w : World) :
    ∃ v, (if isMax then Builtin.max2 x y else Builtin.min2 x y).run P w = .ok v w ∧ Rd E d v := by
  obtain ⟨v, h1, h2⟩ := mm_sound (P := P) h (fun d' e => by cases e; exact hx) (fun d' e => by cases e; exact hy) #[] 0 w
  refine ⟨v, ?_, h2⟩
  cases isMax <;> simpa [Builtin.max_, Builtin.min_] using h1
theorem mmL_run {isMax : Bool} {w : World} : ∀ (ds : List D) (d : D) (v : Value) (vs : List Value) (e : D) (c : Prop), mmL isMax d ds = some (e, c) → Rd E d v → RdT E ds vs →
    ∃ u, (vs.foldlM (if isMax then Builtin.max2 else Builtin.min2) v).run P w = .ok u w ∧ Rd E e u
  | [], d, v, vs, e, c, h, hd, hs => by
    simp only [mmL] at h
    obtain ⟨rfl, rfl⟩ := pair_inj h
    simp only [RdT] at hs
    subst hs
    exact ⟨v, by simp, hd⟩
  | f :: ds, d, v, vs, e, c, h, hd, hs => by
    simp only [mmL] at h
    simp only [RdT] at hs
    obtain ⟨u, r, rfl, h1, h2⟩ := hs
    split at h
    · rename_i g c' hg
      obtain ⟨z, k1, k2⟩ := mm2_run (P := P) hg hd h1 w
      obtain ⟨q, k3, k4⟩ := mmL_run ds g z r e c h k2 h2
      refine ⟨q, ?_, k4⟩
      cases isMax <;> simp at k1 k3 ⊢ <;> rw [k1] <;> simpa using k3
    · cases h
theorem mmA_run {isMax : Bool} {o : Option (List D)} {d : D} {c : Prop} (h : mmA isMax o = some (d, c)) {args : Array Value} (hr : ∀ ds, o = some ds → RdT E ds args.toList) (ts : Array TypeId) (ty : TypeId) (w : World) :
    ∃ v, (if isMax then Builtin.max_ ts ty args else Builtin.min_ ts ty args).run P w = .ok v w ∧ Rd E d v := by
  unfold mmA at h
  split at h
  · rename_i d0 ds
    have h0 := hr _ rfl
    simp only [RdT] at h0
    obtain ⟨u, r, e, h1, h2⟩ := h0
    obtain ⟨q, k3, k4⟩ := mmL_run (P := P) (w := w) ds d0 u r d c h h1 h2
    refine ⟨q, ?_, k4⟩
    cases isMax <;> simp only [Builtin.max_, Builtin.min_, e] <;> simpa using k3
  · cases h
end
end Go.VD
