import Derived.Test.YtfleadelfklenaaGreatDoorZGw1
import Derived.Maps.AppendAt
section
namespace Go.VD
set_option linter.unusedVariables false
set_option linter.unusedSimpArgs false
section
variable {P : Program} {T : Tbl} (hT : TblOk P T) {E : Ctx}
theorem intO_bound {env : Env} {ev : Operand → Value} (hg : ∀ x d, opnd env x = some d → Rd E d (ev x)) (x : Option Operand) (b : Option Int) (h : intO env x = some b) : BoundV b (x.map ev) := by
  cases x with
  | none => simp only [intO] at h; injection h with h; subst h; simp [BoundV]
  | some x =>
    simp only [intO] at h
    split at h
    · rename_i k i hgx
      injection h with h; subst h
      have := hg x _ hgx
      simp only [Rd] at this
      simp only [Option.map_some, BoundV]
      exact ⟨k, this⟩
    · cases h
theorem getAll_rd {env : Env} {ev : Operand → Value} (hg : ∀ x d, opnd env x = some d → Rd E d (ev x)) : ∀ (xs : List Operand) (ds : List D), getAll env xs = some ds → RdT E ds (xs.map ev)
  | [], ds, h => by simp only [getAll] at h; injection h with h; subst h; simp [RdT]
  | x :: xs, ds, h => by
    simp only [getAll] at h
    split at h
    · rename_i d ds' h1 h2
      injection h with h; subst h
      simp only [List.map_cons, RdT]
      exact ⟨_, _, rfl, hg x d h1, getAll_rd hg xs ds' h2⟩
    · cases h
theorem run_forIn_all {α : Type} (P : Program) (w : World) (b : α → Bool) : ∀ (l : List α) (step : α → Option Bool × Unit → Sem (ForInStep (Option Bool × Unit))),
    (∀ f ∈ l, (step f (none, ())).run P w = .ok (if b f then .yield (none, ()) else .done (some false, ())) w) → (forIn l (none, ()) step).run P w = .ok (if l.all b then (none, ()) else (some false, ())) w
  | [], step, h => by simp
  | f :: l, step, h => by
    rw [List.forIn_cons]
    simp only [Sem.run_bind, h f (by simp), Result.andThen_ok]
    cases hb : b f with
    | true => simpa [hb] using run_forIn_all P w b l step fun g hg => h g (by simp [hg])
    | false => simp [hb]
include hT
theorem eqFs_sound {n : Nat} {us vs : Array Value} {xs ys : List D} (hu : RdL E xs us.toList) (hv : RdL E ys vs.toList)
    (ih : ∀ (t : TypeId) (x y : D) (u v : Value) (b : Bool) (c : Prop), eqD T n (T t) x y = some (b, c) → c → Rd E x u → Rd E y v → ∀ d, n ≤ d → ∀ w, (Op.equalIn d t u v).run P w = .ok b w) {d : Nat} (hd : n ≤ d) (w : World) :
    ∀ (fs : List (Nat × TypeId)) (b : Bool) (c : Prop), eqFs (eqD T n) T xs ys fs = some (b, c) → c →
      ∃ bs : Nat × TypeId → Bool, b = fs.all bs ∧ ∀ f ∈ fs, ((part f.2 us f.1).run P w).andThen (fun a w' => ((part f.2 vs f.1).run P w').andThen fun a' w'' => (Op.equalIn d f.2 a a').run P w'') = .ok (bs f) w
  | [], b, c, h, hc => by
    simp only [eqFs] at h
    obtain ⟨rfl, rfl⟩ := pair_inj h
    exact ⟨fun _ => true, rfl, by simp⟩
  | (off, ft) :: r, b, c, h, hc => by
    simp only [eqFs] at h
    split at h
    · rename_i ti hti
      split at h
      · rename_i b1 c1 b2 c2 h1 h2
        obtain ⟨rfl, rfl⟩ := pair_inj h
        obtain ⟨⟨hc1, hc2⟩, hc3, hc4⟩ := hc
        obtain ⟨a1, e1, r1⟩ := part_sound (P := P) (hT.ok ft ti hti) hu hc1 w
        obtain ⟨a2, e2, r2⟩ := part_sound (P := P) (hT.ok ft ti hti) hv hc2 w
        have hq := ih ft _ _ a1 a2 b1 c1 (by rw [hti]; exact h1) hc3 r1 r2 d hd w
        obtain ⟨bs, hb, hall⟩ := eqFs_sound hu hv ih hd w r b2 c2 h2 hc4
        by_cases hin : (off, ft) ∈ r
        · have hbs := hall _ hin
          simp only [e1, e2, Result.andThen_ok, hq] at hbs
          have hb1 : b1 = bs (off, ft) := by injection hbs
          refine ⟨bs, by rw [List.all_cons, ← hb, hb1], fun f hf => ?_⟩
          rcases List.mem_cons.1 hf with rfl | hf
          · exact hall _ hin
          · exact hall f hf
        · refine ⟨fun f => if f = (off, ft) then b1 else bs f, ?_, fun f hf => ?_⟩
          · simp only [List.all_cons, if_true]
            congr 1
            rw [hb]
            have key : ∀ l : List (Nat × TypeId), (∀ g ∈ l, g ≠ (off, ft)) → l.all bs = l.all (fun f => if f = (off, ft) then b1 else bs f) := by
              intro l
              induction l with
              | nil => intro _; rfl
              | cons g l ihl =>
                intro hne
                simp only [List.all_cons]
                rw [if_neg (hne g (by simp)), ihl fun g' hg' => hne g' (by simp [hg'])]
            exact key r fun g hg e => hin (e ▸ hg)
          · rcases List.mem_cons.1 hf with rfl | hf
            · simp only [e1, e2, Result.andThen_ok, hq, if_true]
            · have hne : f ≠ (off, ft) := fun e => hin (e ▸ hf)
              show _ = Result.ok (if f = (off, ft) then b1 else bs f) w
              rw [if_neg hne]; exact hall f hf
      · cases h
    · cases h
theorem eqD_sound : ∀ (n : Nat) (t : TypeId) (x y : D) (u v : Value) (b : Bool) (c : Prop), eqD T n (T t) x y = some (b, c) → c → Rd E x u → Rd E y v → ∀ d, n ≤ d → ∀ w, (Op.equalIn d t u v).run P w = .ok b w
  | 0, t, x, y, u, v, b, c, h, _, _, _, _, _, _ => by simp [eqD] at h
  | n + 1, t, x, y, u, v, b, c, h, hc, hu, hv, d, hd, w => by
    obtain ⟨d, rfl⟩ : ∃ d', d = d' + 1 := ⟨d - 1, by omega⟩
    cases hti : T t with
    | none => simp [hti, eqD] at h
    | some ti =>
      have hk := hT.ok t ti hti
      simp only [hti, eqD] at h
      split at h
      · rename_i htd
        split at h
        · rename_i k a l b' hkl
          obtain ⟨rfl, rfl⟩ := pair_inj h
          simp only [Rd] at hu hv
          subst hu; subst hv
          simp [Op.equalIn, run_underlying (hk.int htd), hkl]
        · cases h
      · rename_i htd
        obtain ⟨rfl, rfl⟩ := pair_inj h
        simp only [Rd] at hu hv
        subst hu; subst hv
        simp [Op.equalIn, run_underlying (hk.bool htd)]
      · rename_i htd
        obtain ⟨rfl, rfl⟩ := pair_inj h
        simp only [Rd] at hu hv
        subst hu; subst hv
        simp [Op.equalIn, run_underlying (hk.str htd)]
      · rename_i fs xs ys htd
        simp only [Rd] at hu hv
        obtain ⟨us, rfl, hu⟩ := hu
        obtain ⟨vs, rfl, hv⟩ := hv
        obtain ⟨F, hF, hfs⟩ := hk.struct htd
        have heq := hk.eq (by simp [htd, TD.isAgg])
        simp only [eqOkB, hF, Bool.and_eq_true, Bool.not_eq_true'] at heq
        obtain ⟨⟨hnames, hheld⟩, _⟩ := heq
        obtain ⟨bs, hb, hall⟩ := eqFs_sound hT hu hv (fun t x y u v b c => eqD_sound n t x y u v b c) (d := d) (by omega) w fs b c h hc
        simp only [Op.equalIn, Sem.run_bind, run_underlying hF, Result.andThen_ok, run_program, hheld, Bool.false_eq_true, if_false]
        have hfor := run_forIn_all P w (fun f : Field => bs (f.offset, f.type)) F.toList
          (fun f __s => if f.name ≠ "_" then do
              let a ← part f.type us f.offset
              let a' ← part f.type vs f.offset
              let r ← Op.equalIn d f.type a a'
              if (!r) = true then pure (ForInStep.done (some false, ())) else pure (ForInStep.yield (none, ()))
            else pure (ForInStep.yield (none, ()))) (fun f hf => by
            have hn : f.name ≠ "_" := by
              have := List.all_eq_true.1 hnames f hf
              simpa using this
            have := hall (f.offset, f.type) (by rw [← hfs]; exact List.mem_map.2 ⟨f, hf, rfl⟩)
            simp only [ne_eq, hn, not_false_eq_true, if_true, Sem.run_bind]
            cases h1 : (part f.type us f.offset).run P w with
            | ok a w1 =>
              simp only [h1, Result.andThen_ok] at this ⊢
              cases h2 : (part f.type vs f.offset).run P w1 with
              | ok a' w2 =>
                simp only [h2, Result.andThen_ok] at this ⊢
                simp only [this, Result.andThen_ok]
                cases bs (f.offset, f.type) <;> simp
              | halt => simp [h2, Result.andThen] at this
            | halt => simp [h1, Result.andThen] at this)
        rw [Array.forIn_toList] at hfor
        rw [hfor]
        have hbb : b = F.toList.all (fun f => bs (f.offset, f.type)) := by
          rw [hb, ← hfs, List.all_map]; rfl
        simp only [Result.andThen_ok]
        rw [hbb]
        cases F.toList.all (fun f => bs (f.offset, f.type)) <;> simp
      · rename_i m e xs ys htd
        simp only [Rd] at hu hv
        obtain ⟨us, rfl, hu⟩ := hu
        obtain ⟨vs, rfl, hv⟩ := hv
        have hF := hk.arr htd
        split at h
        · rename_i te hte
          obtain ⟨bs, hb, hall⟩ := eqFs_sound hT hu hv (fun t x y u v b c => eqD_sound n t x y u v b c) (d := d) (by omega) w _ b c h hc
          simp only [Op.equalIn, Sem.run_bind, run_underlying hF, Result.andThen_ok, (hT.ok e te hte).run_size]
          have hfor := run_forIn_all P w (fun i : Nat => bs (i * te.size, e)) (List.range' 0 m 1)
            (fun i __s => do
                let a ← part e us (i * te.size)
                let a' ← part e vs (i * te.size)
                let r ← Op.equalIn d e a a'
                if (!r) = true then pure (ForInStep.done (some false, ())) else pure (ForInStep.yield (none, ()))) (fun i hi => by
              have := hall (i * te.size, e) (List.mem_map.2 ⟨i, hi, rfl⟩)
              simp only [Sem.run_bind]
              cases h1 : (part e us (i * te.size)).run P w with
              | ok a w1 =>
                simp only [h1, Result.andThen_ok] at this ⊢
                cases h2 : (part e vs (i * te.size)).run P w1 with
                | ok a' w2 =>
                  simp only [h2, Result.andThen_ok] at this ⊢
                  simp only [this, Result.andThen_ok]
                  cases bs (i * te.size, e) <;> simp
                | halt => simp [h2, Result.andThen] at this
              | halt => simp [h1, Result.andThen] at this)
          rw [Std.Legacy.Range.forIn_eq_forIn_range']
          simp only [Std.Legacy.Range.size, Nat.sub_zero, Nat.add_sub_cancel, Nat.div_one]
          rw [hfor]
          have hbb : b = (List.range' 0 m 1).all (fun i => bs (i * te.size, e)) := by
            rw [hb, arrFs, List.all_map]; rfl
          simp only [Result.andThen_ok]
          rw [hbb]
          cases (List.range' 0 m 1).all (fun i => bs (i * te.size, e)) <;> simp
        · cases h
      · cases h
theorem aggEq_sound {op : BinOp} {t yt ty : TypeId} {x y : Operand} {dst : Option Tmp} {pos : String} {after : Array Edge} {guard : Option (Nat × Bool)} {env : Env} {a : Act} {d : D} {c : Prop}
    (hg : ∀ x d, opnd env x = some d → Rd E d (a.eval x)) (hia : isAggD (opnd env x) = true) (h : aggEq T op (T t) (opnd env x) (opnd env y) = some (d, c)) (hc : c) :
    ∃ v, (execOp a.eval ⟨dst, .binOp op t x y yt, ty, pos, after, guard⟩).run P E.w = .ok (.value v) E.w ∧ Rd E d v := by
  unfold aggEq at h
  split at h
  · rename_i dx dy hx hy
    have h1 := hg x _ hx
    have h2 := hg y _ hy
    have hxa : ∃ xs, dx = .agg xs := by
      rw [hx] at hia; cases dx <;> simp_all [isAggD]
    obtain ⟨xs, rfl⟩ := hxa
    have main : ∀ b c', eqD T 10 (T t) (.agg xs) dy = some (b, c') → c' → ∃ us vs, a.eval x = .agg us ∧ a.eval y = .agg vs ∧ P.eqGuardType P.depth t = false ∧ (Op.equal t (.agg us) (.agg vs)).run P E.w = .ok b E.w := by
      intro b c' he hc'
      have hrun := eqD_sound hT 10 t _ _ (a.eval x) (a.eval y) b c' he hc' h1 h2 Op.maxDepth (by decide) E.w
      cases hti : T t with
      | none => simp [hti, eqD] at he
      | some ti =>
        simp only [hti, eqD] at he
        have hag : ti.td.isAgg = true ∧ ∃ ys, dy = .agg ys := by
          split at he <;> first | (cases he; done) | contradiction | skip
          · rename_i htd hxs; exact ⟨by simp [htd, TD.isAgg], _, rfl⟩
          · rename_i htd hxs; exact ⟨by simp [htd, TD.isAgg], _, rfl⟩
        obtain ⟨hag, ys, rfl⟩ := hag
        simp only [Rd] at h1 h2
        obtain ⟨us, hu, _⟩ := h1
        obtain ⟨vs, hv, _⟩ := h2
        have heq := (hT.ok t ti hti).eq hag
        simp only [eqOkB, Bool.and_eq_true, Bool.not_eq_true'] at heq
        rw [hu, hv] at hrun
        exact ⟨us, vs, hu, hv, heq.2, hrun⟩
    split at h
    · rename_i b c' he
      obtain ⟨rfl, rfl⟩ := pair_inj h
      obtain ⟨us, vs, e1, e2, e3, e4⟩ := main b c' he hc
      exact ⟨.bool b, by simp [execOp, e1, e2, eqGuard, e3, binOp, e4], by simp [Rd]⟩
    · rename_i b c' he
      obtain ⟨rfl, rfl⟩ := pair_inj h
      obtain ⟨us, vs, e1, e2, e3, e4⟩ := main b c' he hc
      exact ⟨.bool !b, by simp [execOp, e1, e2, eqGuard, e3, binOp, e4], by simp [Rd]⟩
    · cases h
  · cases h
theorem nilCmp_sound {op : BinOp} {t yt ty : TypeId} {x y : Operand} {dst : Option Tmp} {pos : String} {after : Array Edge} {guard : Option (Nat × Bool)} {a : Act} {d : D} {c : Prop} {n cp : Nat} {A : Option Addr}
    (h : nilCmp ((T t).map (·.td)) op n = some (d, c)) (hc : c) (h1 : a.eval x = .slice A n cp) (h2 : a.eval y = .slice none 0 0) (hA : 0 < n → A.isNone = false) :
    ∃ v, (execOp a.eval ⟨dst, .binOp op t x y yt, ty, pos, after, guard⟩).run P E.w = .ok (.value v) E.w ∧ Rd E d v := by
  have go : ∀ e, (T t).map (·.td) = some (.slice e) → (op = .eql ∨ op = .neq) → (execOp a.eval ⟨dst, .binOp op t x y yt, ty, pos, after, guard⟩).run P E.w = .ok (.value (.bool (if op = .eql then A.isNone else !A.isNone))) E.w := by
    intro e htd ho
    cases hti : T t with
    | none => simp [hti] at htd
    | some ti =>
      simp [hti] at htd
      simp [execOp, h1, h2, eqGuard_at_slice, binOp_at_slice op ho ((hT.ok t ti hti).slice htd)]
  unfold nilCmp at h
  split at h
  · rename_i htd
    obtain ⟨rfl, rfl⟩ := pair_inj h
    exact ⟨_, go _ htd (.inl rfl), by simp [Rd, hA hc]⟩
  · rename_i htd
    obtain ⟨rfl, rfl⟩ := pair_inj h
    exact ⟨_, go _ htd (.inr rfl), by simp [Rd, hA hc]⟩
  · cases h
theorem opP_sound {o : Oper} {env : Env} {a : Act} {d : D} {c : Prop} (hg : ∀ x d, opnd env x = some d → Rd E d (a.eval x)) (h : opP T env o.op = some (d, c)) (hc : c) :
    ∃ v, (execOp a.eval o).run P E.w = .ok (.value v) E.w ∧ Rd E d v := by
  obtain ⟨dst, op, ty, pos, after, guard⟩ := o
  simp only at h
  cases op
  case move x =>
    simp only [opP, Option.map_eq_some_iff] at h
    obtain ⟨d', h1, h2⟩ := h
    injection h2 with h2 _; subst h2
    exact ⟨_, by simp [execOp], hg x _ h1⟩
  case assign x =>
    simp only [opP, Option.map_eq_some_iff] at h
    obtain ⟨d', h1, h2⟩ := h
    injection h2 with h2 _; subst h2
    exact ⟨_, by simp [execOp], hg x _ h1⟩
  case pick x y z =>
    obtain ⟨b, h1, h2⟩ := pick_sound h hc (fun d' e => hg x d' e) (fun d' e => hg y d' e) (fun d' e => hg z d' e)
    exact ⟨_, by simp [execOp, h1, asBool], h2⟩
  case unOp op t x =>
    simp only [opP, unD] at h
    split at h
    · rename_i u hu
      cases hz : unV op u with
      | none => simp [hz] at h
      | some z =>
        simp only [hz, Option.map_some] at h
        obtain ⟨rfl, rfl⟩ := pair_inj h
        have := hg x _ hu
        simp only [Rd] at this
        exact ⟨z, by simp [execOp, this, unV_sound hz], by simp [Rd]⟩
    · cases h
  case binOp op t x y yt =>
    simp only [opP] at h
    cases hia : isAggD (opnd env x) with
    | true =>
    rw [hia] at h
    simp only [cond_true] at h
    exact aggEq_sound hT hg hia h hc
    | false =>
    rw [hia] at h
    simp only [cond_false, binD] at h
    split at h
    · rename_i u v hu hv
      cases hz : binV ((T t).map (·.td)) op u v with
      | none => simp [hz] at h
      | some z =>
        obtain ⟨z, c'⟩ := z
        simp only [hz, Option.map_some] at h
        obtain ⟨rfl, rfl⟩ := pair_inj h
        have h1 := hg x _ hu
        have h2 := hg y _ hv
        simp only [Rd] at h1 h2
        obtain ⟨e1, e2⟩ := binV_sound hT hz hc x y E.w
        exact ⟨z, by simp [execOp, h1, h2, e1, e2], by simp [Rd]⟩
    · rename_i n xs hu hv
      have h1 := hg x _ hu
      have h2 := hg y _ hv
      simp only [Rd] at h1 h2
      obtain ⟨_, A, cp, h1, _, _, h3⟩ := h1
      exact nilCmp_sound hT h hc h1 h2 (fun h0 => by obtain ⟨ad, e, _⟩ := h3 h0; rw [e]; rfl)
    · rename_i b off n cp hu hv
      have h1 := hg x _ hu
      have h2 := hg y _ hv
      cases cp with
      | exact c0 es =>
        simp only [Rd] at h1 h2
        obtain ⟨_, h3, _, A, h1, h4⟩ := h1
        exact nilCmp_sound hT h hc h1 h2 (fun h0 => by rw [h4 (by omega)]; rfl)
      | toEnd es =>
        simp only [Rd] at h1 h2
        obtain ⟨_, A, c0, h1, h3, _, _, h4⟩ := h1
        exact nilCmp_sound hT h hc h1 h2 (fun h0 => by rw [h4 (by omega)]; rfl)
    · cases h
  case convert s t x =>
    simp only [opP, convD] at h
    split at h
    · rename_i u hu
      cases hz : convV ((T s).map (·.td)) ((T t).map (·.td)) u with
      | none => simp [hz] at h
      | some z =>
        simp only [hz, Option.map_some] at h
        obtain ⟨rfl, rfl⟩ := pair_inj h
        have := hg x _ hu
        simp only [Rd] at this
        exact ⟨z, by simp [execOp, this, convV_sound hT hz], by simp [Rd]⟩
    · cases h
  case fieldAddr s x f =>
    obtain ⟨v, h1, h2⟩ := fieldAddr_sound hT h hc (fun d' e => hg x d' e) E.w
    exact ⟨v, by simp [execOp, h1], h2⟩
  case field s x f =>
    obtain ⟨v, h1, h2⟩ := field_sound hT h hc (fun d' e => hg x d' e) E.w
    exact ⟨v, by simp [execOp, h1], h2⟩
  case indexAddr t x i =>
    obtain ⟨v, h1, h2⟩ := indexAddr_sound hT h hc (fun d' e => hg x d' e) (fun d' e => hg i d' e) E.w
    exact ⟨v, by simp [execOp, h1], h2⟩
  case index t x i =>
    obtain ⟨v, h1, h2⟩ := index_sound hT h hc (fun d' e => hg x d' e) (fun d' e => hg i d' e) E.w
    exact ⟨v, by simp [execOp, h1], h2⟩
  case load t x =>
    obtain ⟨v, h1, h2⟩ := load_sound hT h hc (fun d' e => hg x d' e)
    exact ⟨v, by simp [execOp, h1], h2⟩
  case extract x i =>
    obtain ⟨v, h1, h2⟩ := extract_sound (P := P) h (fun d' e => hg x d' e) E.w
    exact ⟨v, by simp [execOp, h1], h2⟩
  case slice t x lo hi mx =>
    obtain ⟨v, h1, h2⟩ := slice_sound hT h hc (fun d' e => hg x d' e) (intO_bound hg lo) (intO_bound hg hi) (intO_bound hg mx) E.w
    exact ⟨v, by simp [execOp, h1], h2⟩
  case build t parts =>
    obtain ⟨v, h1, h2⟩ := build_sound hT hg h E.w
    exact ⟨v, by simp only [execOp, Sem.run_bind, h1, Result.andThen_ok, Sem.run_pure], h2⟩
  case makeInterface t x =>
    simp only [opP, ifcD] at h
    split at h
    · rename_i dx hdx
      split at h
      · rename_i ti ht
        split at h
        · cases h
        · rename_i hne
          obtain ⟨rfl, rfl⟩ := pair_inj h
          obtain ⟨dd, h1, h2⟩ := (hT.ok t ti ht).und
          refine ⟨.iface t (a.eval x), ?_, by simp only [Rd]; exact ⟨_, (ifcV_ne (hT.ok t ti ht).ne _).symm, hg x _ hdx⟩⟩
          have : ∀ ms, dd ≠ .interface ms := fun ms e => by subst e; cases htd : ti.td <;> simp_all [TD.fits]
          simp only [execOp, Instr.makeInterface, Sem.run_bind, run_underlying h1, Result.andThen_ok, Sem.run_pure]
      · cases h
    · cases h
  case makeFunc fn first caps =>
    simp only [opP, funcD] at h
    split at h
    · cases hz : getAll env (first.toList ++ caps.toList) with
      | none => simp [hz] at h
      | some ds =>
        simp only [hz, Option.map_some] at h
        obtain ⟨rfl, rfl⟩ := pair_inj h
        refine ⟨.func (.func _) (first.map a.eval) (caps.map a.eval), by simp [execOp, Instr.makeFunc]; rfl, ?_⟩
        simp only [Rd]
        exact ⟨_, _, rfl, by simp, by simpa using getAll_rd hg _ _ hz⟩
    · cases h
  case nilCheck x =>
    simp only [opP, nilCheckD] at h
    split at h
    · rename_i hx
      obtain ⟨rfl, rfl⟩ := pair_inj h
      have hr := hg x _ hx
      have hr' := hr
      simp only [Rd] at hr'
      refine ⟨a.eval x, ?_, hr⟩
      simp only [execOp]
      rw [hr'.2]; rfl
    · rename_i hx
      obtain ⟨rfl, rfl⟩ := pair_inj h
      have hr := hg x _ hx
      have hr' := hr
      simp only [Rd] at hr'
      obtain ⟨_, ad, e, _⟩ := hr'
      refine ⟨a.eval x, ?_, hr⟩
      simp only [execOp]
      rw [e]; rfl
    · cases h
  case call cl =>
    obtain ⟨callee, args, argTypes⟩ := cl
    cases callee with
    | value f => simp [opP] at h
    | invoke r m => simp [opP] at h
    | builtin b =>
      simp only [opP, callB] at h
      split at h
      · rename_i x t hargs hts
        have e1 : args = #[x] := by rw [← Array.toList_inj, hargs]
        have e2 : argTypes = #[t] := by rw [← Array.toList_inj, hts]
        subst e1; subst e2
        obtain ⟨v, h1, h2⟩ := len_sound hT (ty := ty) h (fun d' e => hg x d' e) E.w
        exact ⟨v, by simp [execOp, resolve, invoke, builtin, h1], h2⟩
      · rename_i x t hargs hts
        have e1 : args = #[x] := by rw [← Array.toList_inj, hargs]
        have e2 : argTypes = #[t] := by rw [← Array.toList_inj, hts]
        subst e1; subst e2
        obtain ⟨v, h1, h2⟩ := cap_sound hT (ty := ty) h (fun d' e => hg x d' e) E.w
        exact ⟨v, by simp [execOp, resolve, invoke, builtin, h1], h2⟩
      · rename_i x y hargs
        have e1 : args = #[x, y] := by rw [← Array.toList_inj, hargs]
        subst e1
        obtain ⟨v, h1, h2⟩ := mm_sound (P := P) h (fun d' e => hg x d' e) (fun d' e => hg y d' e) argTypes ty E.w
        simp only [if_true] at h1
        exact ⟨v, by simp [execOp, resolve, invoke, builtin, h1], h2⟩
      · rename_i x y hargs
        have e1 : args = #[x, y] := by rw [← Array.toList_inj, hargs]
        subst e1
        obtain ⟨v, h1, h2⟩ := mm_sound (P := P) h (fun d' e => hg x d' e) (fun d' e => hg y d' e) argTypes ty E.w
        simp only [Bool.false_eq_true, if_false] at h1
        exact ⟨v, by simp [execOp, resolve, invoke, builtin, h1], h2⟩
      · rename_i x y z r hargs
        obtain ⟨v, h1, h2⟩ := mmA_run (P := P) h (args := args.map a.eval) (fun ds e => by rw [Array.toList_map, hargs]; exact getAll_rd hg _ _ e) argTypes ty E.w
        simp only [if_true] at h1
        exact ⟨v, by simp [execOp, resolve, invoke, builtin, h1], h2⟩
      · rename_i x y z r hargs
        obtain ⟨v, h1, h2⟩ := mmA_run (P := P) h (args := args.map a.eval) (fun ds e => by rw [Array.toList_map, hargs]; exact getAll_rd hg _ _ e) argTypes ty E.w
        simp only [Bool.false_eq_true, if_false] at h1
        exact ⟨v, by simp [execOp, resolve, invoke, builtin, h1], h2⟩
      · cases h
  all_goals (simp [opP] at h)
omit hT
def opSlots (op : Op) : List Nat := op.operands.toList.filterMap fun | .tmp t => some t | _ => none
theorem get_of_lookup {env env' : Env} {op : Op} (h : ∀ t ∈ opSlots op, env.lookup t = env'.lookup t) (x : Operand) (hx : x ∈ op.operands.toList) : opnd env x = opnd env' x := by
  cases x with
  | tmp t => exact h t (by simp only [opSlots, List.mem_filterMap]; exact ⟨.tmp t, hx, rfl⟩)
  | const v => cases v <;> rfl
  | global g => rfl
  | func f => rfl
theorem getAll_congr {env env' : Env} : ∀ (xs : List Operand), (∀ x ∈ xs, opnd env x = opnd env' x) → getAll env xs = getAll env' xs
  | [], _ => rfl
  | x :: xs, h => by simp only [getAll, h x (by simp), getAll_congr xs fun y hy => h y (by simp [hy])]
theorem fillD_congr {env env' : Env} {place : Nat → Option (Nat × Nat)} : ∀ (ps : List (Nat × Operand)) (cs : List D), (∀ p ∈ ps, opnd env p.2 = opnd env' p.2) → fillD place env cs ps = fillD place env' cs ps
  | [], _, _ => rfl
  | (i, x) :: ps, cs, h => by
    have h0 := h (i, x) (by simp)
    simp only at h0
    simp only [fillD, h0]
    split
    · split
      · exact fillD_congr ps _ fun p hp => h p (by simp [hp])
      · rfl
    · rfl
theorem intO_congr {env env' : Env} {x : Option Operand} (h : ∀ y, x = some y → opnd env y = opnd env' y) : intO env x = intO env' x := by
  cases x with
  | none => rfl
  | some x => simp only [intO, h x rfl]
theorem opP_congr {T : Tbl} {env env' : Env} {op : Op} (h : ∀ t ∈ opSlots op, env.lookup t = env'.lookup t) : opP T env op = opP T env' op := by
  have hx := get_of_lookup h
  cases op
  case build t parts =>
    have : ∀ p ∈ parts.toList, opnd env p.2 = opnd env' p.2 := fun p hp => hx p.2 (by simp only [Op.operands, List.toList_toArray, List.mem_map]; exact ⟨p, hp, rfl⟩)
    simp only [opP, buildD, fillD_congr parts.toList _ this]
  case makeFunc fn first caps =>
    have : ∀ x ∈ first.toList ++ caps.toList, opnd env x = opnd env' x := fun x hm => hx x (by simpa [Op.operands] using hm)
    simp only [opP, funcD, getAll_congr _ this]
  case slice t x lo hi mx =>
    have e0 := hx x (by simp [Op.operands])
    have e1 : intO env lo = intO env' lo := intO_congr fun y hy => hx y (by subst hy; simp [Op.operands])
    have e2 : intO env hi = intO env' hi := intO_congr fun y hy => hx y (by subst hy; simp [Op.operands])
    have e3 : intO env mx = intO env' mx := intO_congr fun y hy => hx y (by subst hy; simp [Op.operands])
    simp only [opP, e0, e1, e2, e3]
  case call c =>
    obtain ⟨callee, args, ts⟩ := c
    cases callee with
    | value f => rfl
    | invoke r m => rfl
    | builtin b =>
      have : ∀ x ∈ args.toList, opnd env x = opnd env' x := fun x hm => hx x (by simpa [Op.operands, Call.operands] using hm)
      simp only [opP, callB]
      generalize args.toList = l at this ⊢
      generalize ts.toList = r
      split
      case h_5 => rw [getAll_congr _ this]
      case h_6 => rw [getAll_congr _ this]
      all_goals simp_all
  all_goals first
    | rfl
    | (simp only [opP]; congr 1 <;> first | rfl | exact hx _ (by simp [Op.operands]) | (congr 1 <;> first | rfl | exact hx _ (by simp [Op.operands])))
end
end Go.VD
end
section
namespace Go.VD
set_option linter.unusedVariables false
set_option linter.unusedSimpArgs false
def chunks (w : Nat) : Nat → List D → List (List D)
  | 0, _ => []
  | n + 1, cs => match cs with
    | [] => []
    | c :: r => ((c :: r).take w) :: chunks w n ((c :: r).drop w)
def mEnts (w : Nat) (cs : List D) : List (List D) := chunks w cs.length cs
def keyEq : List Value → List D → List D → Bool
  | [], _, _ => true
  | .int _ _ :: zs, a :: as, b :: bs => (cellInt a == cellInt b) && keyEq zs as bs
  | .string _ :: zs, a :: as, b :: bs => (cellStr a == cellStr b) && keyEq zs as bs
  | .bool _ :: zs, a :: as, b :: bs => (cellBool a == cellBool b) && keyEq zs as bs
  | _, _, _ => false
def keyC : List Value → List D → Prop
  | [], [] => True
  | .int k _ :: zs, a :: as => IsInt k a ∧ keyC zs as
  | .string _ :: zs, a :: as => IsStr a ∧ keyC zs as
  | .bool _ :: zs, a :: as => IsBool a ∧ keyC zs as
  | _, _ => False
def mGet (zk : List Value) (vn : Nat) (key cs : List D) : Option (List D) :=
  ((mEnts (zk.length + vn) cs).find? fun e => keyEq zk key e).map (·.drop zk.length)
def mHas (zk : List Value) (vn : Nat) (key cs : List D) : Bool := (mEnts (zk.length + vn) cs).any fun e => keyEq zk key e
def mVal (zk : List Value) (vn : Nat) (zv : List Value) (key cs : List D) : List D := (mGet zk vn key cs).getD (zv.map .v)
def mPut (zk : List Value) (vn : Nat) (key val cs : List D) : List D :=
  bif mHas zk vn key cs then (mEnts (zk.length + vn) cs).flatMap fun e => bif keyEq zk key e then e.take zk.length ++ val else e
  else cs ++ (key ++ val)
theorem chunks_flat {w : Nat} (hw : 0 < w) : ∀ (l : List (List D)) (n : Nat), (∀ e ∈ l, e.length = w) → l.flatten.length ≤ n → chunks w n l.flatten = l
  | [], n, _, _ => by cases n <;> rfl
  | e :: l, n, h, hn => by
    have he : e.length = w := h e (by simp)
    cases n with
    | zero => simp only [List.flatten_cons, List.length_append] at hn; omega
    | succ n =>
      obtain ⟨x, r, rfl⟩ : ∃ x r, e = x :: r := by
        cases e with
        | nil => simp at he; omega
        | cons x r => exact ⟨x, r, rfl⟩
      have e1 : ((x :: r) :: l).flatten = x :: (r ++ l.flatten) := by simp
      rw [e1]
      simp only [chunks]
      have e2 : x :: (r ++ l.flatten) = (x :: r) ++ l.flatten := rfl
      rw [e2, List.take_left' he, List.drop_left' he, chunks_flat hw l n (fun e he => h e (by simp [he])) (by simp only [List.flatten_cons, List.length_append] at hn; omega)]
theorem mEnts_flat {w : Nat} (hw : 0 < w) {l : List (List D)} (h : ∀ e ∈ l, e.length = w) : mEnts w l.flatten = l := chunks_flat hw l _ h (Nat.le_refl _)
theorem mEnts_flatMap {α : Type} {w : Nat} (hw : 0 < w) {l : List α} {f : α → List D} (h : ∀ x ∈ l, (f x).length = w) : mEnts w (l.flatMap f) = l.map f := by
  rw [List.flatMap_def]; exact mEnts_flat hw (by intro e he; obtain ⟨x, hx, rfl⟩ := List.mem_map.1 he; exact h x hx)
def RdLs (E : Ctx) : List (List D) → List (List Value) → Prop
  | [], us => us = []
  | d :: ds, us => ∃ u r, us = u :: r ∧ RdL E d u ∧ RdLs E ds r
theorem RdLs.split {E : Ctx} : ∀ (us : List (List Value)) (cs : List D), RdL E cs us.flatten → ∃ l, cs = l.flatten ∧ RdLs E l us
  | [], cs, h => by
    have := h.length
    exact ⟨[], by simpa using List.eq_nil_of_length_eq_zero this.symm, rfl⟩
  | u :: us, cs, h => by
    simp only [List.flatten_cons] at h
    have hl := h.length
    simp only [List.length_append] at hl
    have h1 : RdL E (cs.take u.length) u := by
      have := h.take u.length
      rwa [List.take_left' rfl] at this
    have h2 : RdL E (cs.drop u.length) us.flatten := by
      have := h.drop u.length
      rwa [List.drop_left' rfl] at this
    obtain ⟨l, e1, h3⟩ := RdLs.split us _ h2
    exact ⟨cs.take u.length :: l, by rw [List.flatten_cons, ← e1, List.take_append_drop], by simp only [RdLs]; exact ⟨u, us, rfl, h1, h3⟩⟩
theorem RdLs.join {E : Ctx} : ∀ (l : List (List D)) (us : List (List Value)), RdLs E l us → RdL E l.flatten us.flatten
  | [], us, h => by simp only [RdLs] at h; subst h; simp [RdL]
  | d :: l, us, h => by
    simp only [RdLs] at h
    obtain ⟨u, r, rfl, h1, h2⟩ := h
    exact h1.append _ _ _ _ (RdLs.join l r h2)
theorem RdLs.lengths {E : Ctx} : ∀ (l : List (List D)) (us : List (List Value)) (w : Nat), RdLs E l us → (∀ u ∈ us, u.length = w) → ∀ e ∈ l, e.length = w
  | [], us, w, h, hw => by simp
  | d :: l, us, w, h, hw => by
    simp only [RdLs] at h
    obtain ⟨u, r, rfl, h1, h2⟩ := h
    intro e he
    rcases List.mem_cons.1 he with rfl | he
    · rw [← h1.length]; exact hw u (by simp)
    · exact RdLs.lengths l r w h2 (fun u hu => hw u (by simp [hu])) e he
theorem rd_kind {E : Ctx} {z u : Value} {d : D} (hk : kindB z u = true) (h : Rd E d u) : d = .v u := by
  cases d with
  | v x => simp only [Rd] at h; rw [h]
  | ro n xs => simp only [Rd] at h; obtain ⟨_, A, c, rfl, _⟩ := h; cases z <;> simp [kindB] at hk
  | rp xs j => simp only [Rd] at h; obtain ⟨_, A, rfl, _⟩ := h; cases z <;> simp [kindB] at hk
  | sl b off n c => cases c <;> simp only [Rd] at h
                    · obtain ⟨_, _, _, A, rfl, _⟩ := h; cases z <;> simp [kindB] at hk
                    · obtain ⟨_, A, c, rfl, _⟩ := h; cases z <;> simp [kindB] at hk
  | ptr b off => simp only [Rd] at h; obtain ⟨_, rfl⟩ := h; cases z <;> simp [kindB] at hk
  | agg xs => simp only [Rd] at h; obtain ⟨us, rfl, _⟩ := h; cases z <;> simp [kindB] at hk
  | tup xs => simp only [Rd] at h; obtain ⟨us, rfl, _⟩ := h; cases z <;> simp [kindB] at hk
  | ifc t d =>
    simp only [Rd] at h; obtain ⟨x, rfl, _⟩ := h
    unfold ifcV at hk
    split at hk
    · split at hk <;> cases z <;> simp [kindB] at hk
    · cases z <;> simp [kindB] at hk
  | fn f k caps => simp only [Rd] at h; obtain ⟨fs, us, rfl, _⟩ := h; cases z <;> simp [kindB] at hk
theorem rd_kinds {E : Ctx} : ∀ (zs us : List Value) (ds : List D), kindsB zs us = true → RdL E ds us → ds = us.map D.v
  | [], [], ds, _, h => by have := h.length; simpa using List.eq_nil_of_length_eq_zero this.symm
  | [], _ :: _, _, h, _ => by simp [kindsB] at h
  | _ :: _, [], _, h, _ => by simp [kindsB] at h
  | z :: zs, u :: us, [], _, h => by simp [RdL] at h
  | z :: zs, u :: us, d :: ds, hk, h => by
    simp only [kindsB, Bool.and_eq_true] at hk
    simp only [RdL, List.cons.injEq] at h
    obtain ⟨_, _, ⟨rfl, rfl⟩, _, hd, hr⟩ := h
    rw [rd_kind hk.1 hd, rd_kinds zs us ds hk.2 hr]; rfl
theorem kindsB_length : ∀ (zs us : List Value), kindsB zs us = true → us.length = zs.length
  | [], [], _ => rfl
  | [], _ :: _, h => by simp [kindsB] at h
  | _ :: _, [], h => by simp [kindsB] at h
  | z :: zs, u :: us, h => by
    simp only [kindsB, Bool.and_eq_true] at h
    simp [kindsB_length zs us h.2]
theorem keyC_kinds {E : Ctx} : ∀ (zs : List Value) (ds : List D) (us : List Value), keyC zs ds → RdL E ds us → kindsB zs us = true ∧ ds = us.map D.v
  | [], [], us, _, h => by simp only [RdL] at h; subst h; exact ⟨rfl, rfl⟩
  | [], _ :: _, us, h, _ => by simp [keyC] at h
  | z :: zs, [], us, h, _ => by cases z <;> simp [keyC] at h
  | z :: zs, d :: ds, us, h, hr => by
    simp only [RdL] at hr
    obtain ⟨u, r, rfl, _, hd, hr⟩ := hr
    cases z <;> simp only [keyC] at h
    case int k n =>
      obtain ⟨i1, i2⟩ := keyC_kinds zs ds r h.2 hr
      rw [h.1] at hd; simp only [Rd] at hd; subst hd
      refine ⟨by simp [kindsB, kindB, i1], ?_⟩
      rw [List.map_cons, ← i2, ← h.1]
    case bool n =>
      obtain ⟨i1, i2⟩ := keyC_kinds zs ds r h.2 hr
      rw [h.1] at hd; simp only [Rd] at hd; subst hd
      refine ⟨by simp [kindsB, kindB, i1], ?_⟩
      rw [List.map_cons, ← i2, ← h.1]
    case string n =>
      obtain ⟨i1, i2⟩ := keyC_kinds zs ds r h.2 hr
      rw [h.1] at hd; simp only [Rd] at hd; subst hd
      refine ⟨by simp [kindsB, kindB, i1], ?_⟩
      rw [List.map_cons, ← i2, ← h.1]
theorem bytes_eq_iff {a b : ByteArray} : (a == b) = true ↔ a = b := by
  cases a; cases b
  simp only [BEq.beq, ByteArray.mk.injEq]
  exact beq_iff_eq
theorem keyEq_iff : ∀ (zs us vs : List Value) (r : List D), kindsB zs us = true → kindsB zs vs = true → (keyEq zs (us.map D.v) (vs.map D.v ++ r) = true ↔ us = vs)
  | [], [], [], r, _, _ => by simp [keyEq]
  | [], _ :: _, _, _, h, _ => by simp [kindsB] at h
  | [], _, _ :: _, _, _, h => by simp [kindsB] at h
  | _ :: _, [], _, _, h, _ => by simp [kindsB] at h
  | _ :: _, _, [], _, _, h => by simp [kindsB] at h
  | z :: zs, u :: us, v :: vs, r, hu, hv => by
    simp only [kindsB, Bool.and_eq_true] at hu hv
    have ih := keyEq_iff zs us vs r hu.2 hv.2
    cases z <;> cases u <;> simp only [kindB, Bool.false_eq_true, false_and] at hu
    all_goals cases v <;> simp only [kindB, Bool.false_eq_true, false_and] at hv
    case int.int.int k n l a m b =>
      have e1 : k = l := by simpa using hu.1
      have e2 : k = m := by simpa using hv.1
      subst e1; subst e2
      simp only [List.map_cons, List.cons_append, keyEq, cellInt, Bool.and_eq_true, beq_iff_eq, ih, List.cons.injEq, Value.int.injEq, true_and]
    case string.string.string n a b =>
      simp only [List.map_cons, List.cons_append, keyEq, cellStr, Bool.and_eq_true, bytes_eq_iff, ih, List.cons.injEq, Value.string.injEq]
    case bool.bool.bool n a b =>
      simp only [List.map_cons, List.cons_append, keyEq, cellBool, Bool.and_eq_true, beq_iff_eq, ih, List.cons.injEq, Value.bool.injEq]
theorem findNow_spec (kind : TypeDesc) (k : Value) : ∀ (es : List MapEntry) (i : Nat), (∀ e ∈ es, ∃ b, Instr.sameNow kind k e.key = some b ∧ (b = true ↔ e.key = k)) →
    (∃ j e, es[j]? = some e ∧ e.key = k ∧ Instr.findNow kind k es i = some (some (i + j, e.val))) ∨ ((∀ e ∈ es, e.key ≠ k) ∧ Instr.findNow kind k es i = some none)
  | [], i, _ => .inr ⟨by simp, rfl⟩
  | e :: es, i, h => by
    obtain ⟨b, h1, h2⟩ := h e (by simp)
    simp only [Instr.findNow, h1]
    cases b with
    | true => exact .inl ⟨0, e, rfl, h2.1 rfl, rfl⟩
    | false =>
      have hne : e.key ≠ k := fun h => by have := h2.2 h; cases this
      rcases findNow_spec kind k es (i + 1) (fun e he => h e (by simp [he])) with ⟨j, f, h3, h4, h5⟩ | ⟨h3, h4⟩
      · exact .inl ⟨j + 1, f, by simpa using h3, h4, by simp only [h5]; congr 3; omega⟩
      · refine .inr ⟨fun f hf => ?_, by simp only [h4]⟩
        rcases List.mem_cons.1 hf with rfl | hf
        · exact hne
        · exact h3 f hf
theorem findAsking_spec {P : Program} {w : World} (t : TypeId) (k : Value) : ∀ (es : List MapEntry) (i : Nat), (∀ e ∈ es, ∃ b, (Op.equal t k e.key).run P w = .ok b w ∧ (b = true ↔ e.key = k)) →
    (∃ j e, es[j]? = some e ∧ e.key = k ∧ (Instr.findAsking t k es i).run P w = .ok (some (i + j, e.val)) w) ∨ ((∀ e ∈ es, e.key ≠ k) ∧ (Instr.findAsking t k es i).run P w = .ok none w)
  | [], i, _ => .inr ⟨by simp, rfl⟩
  | e :: es, i, h => by
    obtain ⟨b, h1, h2⟩ := h e (by simp)
    simp only [Instr.findAsking, Sem.run_bind, h1, Result.andThen_ok]
    cases b with
    | true => exact .inl ⟨0, e, rfl, h2.1 rfl, rfl⟩
    | false =>
      have hne : e.key ≠ k := fun h => by have := h2.2 h; cases this
      rcases findAsking_spec t k es (i + 1) (fun e he => h e (by simp [he])) with ⟨j, f, h3, h4, h5⟩ | ⟨h3, h4⟩
      · exact .inl ⟨j + 1, f, by simpa using h3, h4, by simp only [Bool.false_eq_true, if_false, h5]; congr 3; omega⟩
      · refine .inr ⟨fun f hf => ?_, by simp only [Bool.false_eq_true, if_false, h4]⟩
        rcases List.mem_cons.1 hf with rfl | hf
        · exact hne
        · exact h3 f hf
theorem findKey_spec {P : Program} {w : World} {t : TypeId} {kind : TypeDesc} (ht : P.underlying t = some kind) (k : Value) (es : List MapEntry)
    (h : (∀ e ∈ es, ∃ b, Instr.sameNow kind k e.key = some b ∧ (b = true ↔ e.key = k)) ∨ ((∀ e ∈ es, Instr.sameNow kind k e.key = none) ∧ ∀ e ∈ es, ∃ b, (Op.equal t k e.key).run P w = .ok b w ∧ (b = true ↔ e.key = k))) :
    (∃ j e, es[j]? = some e ∧ e.key = k ∧ (Instr.findKey t k es).run P w = .ok (some (j, e.val)) w) ∨ ((∀ e ∈ es, e.key ≠ k) ∧ (Instr.findKey t k es).run P w = .ok none w) := by
  rcases h with h | ⟨h0, h⟩
  · rcases findNow_spec kind k es 0 h with ⟨j, e, h1, h2, h3⟩ | ⟨h1, h2⟩
    · exact .inl ⟨j, e, h1, h2, by simp [Instr.findKey, run_underlying ht, h3]⟩
    · exact .inr ⟨h1, by simp [Instr.findKey, run_underlying ht, h2]⟩
  · cases es with
    | nil => exact .inr ⟨by simp, by simp [Instr.findKey, run_underlying ht, Instr.findNow]⟩
    | cons e es =>
      have hn : Instr.findNow kind k (e :: es) 0 = none := by simp [Instr.findNow, h0 e (by simp)]
      rcases findAsking_spec (P := P) (w := w) t k (e :: es) 0 h with ⟨j, f, h1, h2, h3⟩ | ⟨h1, h2⟩
      · exact .inl ⟨j, f, h1, h2, by simp [Instr.findKey, run_underlying ht, hn, h3]⟩
      · exact .inr ⟨h1, by simp [Instr.findKey, run_underlying ht, hn, h2]⟩
end Go.VD
end
section
namespace Go.VD
set_option linter.unusedVariables false
set_option linter.unusedSimpArgs false
def blkRaw (H : Heap) (b : Nat) : Option Blk := match H[b]? with
  | some (some blk) => some blk
  | _ => none
theorem blkRaw_some {H : Heap} {b : Nat} {blk : Blk} (h : blkRaw H b = some blk) : H[b]? = some (some blk) := by
  unfold blkRaw at h; split at h
  · injection h with h; subst h; assumption
  · cases h
def blkAt (H : Heap) (b : Nat) : Option Blk := match H[b]? with
  | some (some blk) => bif Nat.beq blk.ty itTy then none else some blk
  | _ => none
theorem blkAt_both {H : Heap} {b : Nat} {blk : Blk} (h : blkAt H b = some blk) : H[b]? = some (some blk) ∧ blk.ty ≠ itTy := by
  unfold blkAt at h; split at h
  · rename_i x hx
    cases hb : Nat.beq x.ty itTy with
    | true => rw [hb] at h; cases h
    | false =>
      rw [hb] at h
      injection h with h; subst h
      exact ⟨hx, Nat.ne_of_beq_eq_false hb⟩
  · cases h
theorem blkAt_some {H : Heap} {b : Nat} {blk : Blk} (h : blkAt H b = some blk) : H[b]? = some (some blk) := (blkAt_both h).1
theorem blkAt_ty {H : Heap} {b : Nat} {blk : Blk} (h : blkAt H b = some blk) : blk.ty ≠ itTy := (blkAt_both h).2
theorem blkAt_mk {H : Heap} {b : Nat} {blk : Blk} (h : H[b]? = some (some blk)) (ht : blk.ty ≠ itTy) : blkAt H b = some blk := by
  unfold blkAt; rw [h]
  simp only
  rw [show Nat.beq blk.ty itTy = false from Bool.eq_false_iff.2 fun e => ht (Nat.eq_of_beq_eq_true e)]
  rfl
def makeD (zero : List Value) (n : Nat) : List D :=
  match zero with
  | [z] => List.replicate n (.v z)
  | zs => (List.range (n * zs.length)).map fun i => .v (zs.getD (i % zs.length) undef)
def srcD (H : Heap) (es : Nat) : Option D → Option (Nat × List D × Prop)
  | some (.ro m ys) => some (m, ys.take (m * es), m * es ≤ ys.length)
  | some (.sl b off m _) => match blkAt H b with
    | some blk => some (m, (blk.cs.drop off).take (m * es), off + m * es ≤ blk.cs.length)
    | none => none
  | some (.v (.slice _ 0 _)) => some (0, [], True)
  | _ => none
inductive Tch where
  | no
  | rd (b : Nat)
  | wr (b : Nat)
  | mk (n : Nat)
  | ra
  | al
  | fp (rs ws : List Nat) (n : Nat)
  | rw (rs ws : List Nat)
structure HOut where
  d : D
  H : Heap
  touch : Tch
  c : Prop
def boxH (H : Heap) (elem : TypeId) : Option (List D) → Option HOut
  | some cs => bif Nat.beq elem itTy then none else some ⟨.ptr H.length 0, H ++ [some ⟨elem, cs, true⟩], .mk H.length, True⟩
  | none => none
def loadH (H : Heap) (t : Option TI) : Option D → Option HOut
  | some (.ptr b off) => match blkAt H b, t with
    | some blk, some ti => some ⟨(partD ti blk.cs off).1, H, .rd b, (partD ti blk.cs off).2⟩
    | _, _ => none
  | _ => none
def storeH (H : Heap) (t : Option TI) (ys : Option (List D)) : Option D → Option HOut
  | some (.ptr b off) => match blkAt H b, t, ys with
    | some blk, some ti, some ys => some ⟨.v undef, H.set b (some ⟨blk.ty, setAll blk.cs off ys, blk.full⟩), .wr b, ys.length = ti.size ∧ off + ti.size ≤ blk.cs.length⟩
    | _, _, _ => none
  | _ => none
def makeH (T : Tbl) (H : Heap) (t : Option TI) : Option D → Option D → Option HOut
  | some (.v (.int _ n)), some (.v (.int _ m)) => match t with
    | some ⟨.slice e, _, _, _⟩ => match T e with
      | some ti => some ⟨.sl H.length 0 n.toNat (.toEnd ti.size), H ++ [some ⟨e, makeD ti.zero m.toNat, true⟩], .mk H.length, 0 ≤ n ∧ n ≤ m ∧ (ti.bytes : Int) * m ≤ 281474976710656 ∧ m ≤ 9223372036854775807⟩
      | none => none
    | _ => none
  | _, _ => none
def buildSliceH (T : Tbl) (env : Env) (H : Heap) (t : Option TI) (len : Nat) (parts : List (Nat × Operand)) : Option HOut :=
  match t with
  | some ⟨.slice e, _, _, _⟩ => match T e with
    | some ti => match fillD (fun i => some (i * ti.size, ti.size)) env (makeD ti.zero len) parts with
      | some cs => some ⟨.sl H.length 0 len (.toEnd ti.size), H ++ [some ⟨e, cs, true⟩], .mk H.length, len * ti.size ≤ 16777216 ∧ len ≤ maxLen⟩
      | none => none
    | none => none
  | _ => none
def strD (s : ByteArray) : List D := s.data.toList.map fun b => .v (.int .u8 (b.toNat : Nat))
def srcN : Option D → List Nat
  | some (.sl b _ _ _) => [b]
  | _ => []
def clr : List Nat → Heap → Heap
  | [], H => H
  | b :: r, H => clr r (H.set b none)
def appendS (T : Tbl) (H : Heap) (b n es : Nat) (t' : TypeId) (e : TypeId) (te : TI) (blk : Blk) (s : ByteArray) : Option HOut :=
  match T t' with
  | some ⟨.str, _, _, _⟩ => match te with
    | ⟨.int .u8, 1, 1, _⟩ => some ⟨.sl H.length 0 (n + s.size) (.toEnd 1), H.set b none ++ [some ⟨e, blk.cs.take n ++ strD s, false⟩], .fp [] [b] H.length,
        es = 1 ∧ blk.ty = e ∧ n ≤ blk.cs.length ∧ n + s.size ≤ maxLen ∧ n + s.size ≤ 140737488355328⟩
    | _ => none
  | _ => none
def srcStr (o : Option HOut) (f : ByteArray → Option HOut) : Option D → Option HOut
  | some (.v (.string s)) => f s
  | _ => o
def appendH (T : Tbl) (H : Heap) (t t' : Option TypeId) (ti : Option TI) (src : Option D) : Option D → Option HOut
  | some (.sl b 0 n (.toEnd es)) => match t, t', ti with
    | some t, some t', some ⟨.slice e, _, _, _⟩ => match T e, blkAt H b with
      | some te, some blk => match srcD H te.size src with
        | some (m, news, c) => some ⟨.sl H.length 0 (n + m) (.toEnd te.size), H.set b none ++ [some ⟨e, blk.cs.take (n * te.size) ++ news, false⟩], .fp (srcN src) [b] H.length,
            c ∧ t = t' ∧ es = te.size ∧ blk.ty = e ∧ n * te.size ≤ blk.cs.length ∧ 0 < te.size ∧ n + m ≤ maxLen ∧ (n + m) * te.bytes ≤ 140737488355328⟩
        | none => srcStr none (appendS T H b n es t' e te blk) src
      | _, _ => none
    | _, _, _ => none
  | some (.v (.slice none 0 0)) => match t, t', ti with
    | some t, some t', some ⟨.slice e, _, _, _⟩ => match T e with
      | some te => match srcD H te.size src with
        | some (m, news, c) => some ⟨.sl H.length 0 m (.toEnd te.size), H ++ [some ⟨e, news, false⟩], .fp (srcN src) [] H.length,
            c ∧ t = t' ∧ 0 < te.size ∧ m ≤ maxLen ∧ m * te.bytes ≤ 140737488355328⟩
        | none => none
      | none => none
    | _, _, _ => none
  | _ => none
def strOf (ds : List D) : ByteArray := ⟨(ds.map fun d => UInt8.ofNat (cellInt d).toNat).toArray⟩
def AllU8 (ds : List D) : Prop := ∀ d ∈ ds, IsInt .u8 d
def tchOf : Option D → Tch
  | some (.sl b _ _ _) => .rd b
  | _ => .no
def bytesH (T : Tbl) (H : Heap) (s d : Option TI) (x : Option D) : Option HOut :=
  match s, d with
  | some ⟨.slice e, _, _, _⟩, some ⟨.str, _, _, _⟩ => match T e with
    | some ⟨.int .u8, _, _, _⟩ => match srcD H 1 x with
      | some (_, news, c) => some ⟨.v (.string (strOf news)), H, tchOf x, c ∧ AllU8 news⟩
      | none => none
    | _ => none
  | _, _ => none
def itBlk (s : ByteArray) (n : Int) : Option Blk := some ⟨itTy, [.v (.string s), .v (.int .i64 n)], true⟩
def rangeH (H : Heap) (t : Option TI) : Option D → Option HOut
  | some (.v (.string s)) => match t with
    | some ⟨.str, _, _, _⟩ => some ⟨.ptr H.length 0, H ++ [itBlk s 0], .mk H.length, True⟩
    | _ => none
  | _ => none
def iterAt (H : Heap) (b : Nat) : Option (ByteArray × Int) := match blkRaw H b with
  | some ⟨ty, [.v (.string s), .v (.int .i64 n)], true⟩ => bif Nat.beq ty itTy then some (s, n) else none
  | _ => none
theorem iterAt_some {H : Heap} {b : Nat} {s : ByteArray} {n : Int} (h : iterAt H b = some (s, n)) : H[b]? = some (itBlk s n) := by
  unfold iterAt at h
  split at h
  · rename_i ty s' n' hb
    have hb := blkRaw_some hb
    cases hbe : Nat.beq ty itTy with
    | false => rw [hbe] at h; cases h
    | true =>
      rw [hbe] at h
      have : ty = itTy := Nat.eq_of_beq_eq_true hbe
      rw [this] at hb
      simp only [cond_true, Option.some.injEq, Prod.mk.injEq] at h
      obtain ⟨h1, h2⟩ := h
      rw [← h1, ← h2]
      exact hb
  · cases h
def nextD (s : ByteArray) (n : Int) (b : Bool) : D := bif b then .tup [.v (.bool true), .v (.int .i64 n), .v (.int .i32 ((Utf8.decode s n.toNat).1 : Nat))] else .tup [.v (.bool false)]
def nextN (s : ByteArray) (n : Int) (b : Bool) : Int := bif b then ((n.toNat + (Utf8.decode s n.toNat).2 : Nat) : Int) else n
def nextH (H : Heap) : Option D → Option HOut
  | some (.ptr b 0) => match iterAt H b with
    | some (s, n) => some ⟨nextD s n (decide (n.toNat < s.size)), H.set b (itBlk s (nextN s n (decide (n.toNat < s.size)))), .wr b, True⟩
    | none => none
  | _ => none
def keyOk (k : TI) : Bool := match k.td, k.zero with
  | .int a, [.int b _] => a == b
  | .str, [.string _] => true
  | .bool, [.bool _] => true
  | _, _ => false
def mapTI (T : Tbl) (t : Option TI) : Option (TI × TI) := match t with
  | some ⟨.map k e, _, _, _⟩ => match T k, T e with
    | some a, some b => bif keyOk a && (b.td.isAgg || Nat.beq b.size 1) then some (a, b) else none
    | _, _ => none
  | _ => none
def hdrB : List Value → List D → Bool
  | [], _ => true
  | x :: xs, .v y :: ds => sameScalar x y && hdrB xs ds
  | _, _ => false
def hdrOf (a b : TI) : List Value := mapHdr a.td.isAgg b.td.isAgg a.zero b.size
def mapAt (H : Heap) (b : Nat) (hd : List Value) : Option (List D) := match blkRaw H b with
  | some ⟨ty, cs, full⟩ => bif Nat.beq ty itTy && (full && hdrB hd cs) then some (cs.drop hd.length) else none
  | none => none
def cellsP (agg : Bool) : Option D → Option (List D)
  | some (.agg xs) => bif agg then some xs else none
  | some (.v z) => bif agg then none else cellsD (.v z)
  | some (.tup _) => none
  | some d => bif agg then none else some [d]
  | none => none
def isSlc (b : TI) : Bool := match b.td with
  | .slice _ => true
  | _ => false
def rawB : D → Bool
  | .sl _ _ _ _ => true
  | .v (.slice none 0 0) => true
  | _ => false
def valD (b : TI) (vs : List D) : D := bif b.td.isAgg then .agg (cellsZ b.zero vs 0) else bif isSlc b then (bif rawB (vs.headD default) then vs.headD default else (cellsZ b.zero vs 0).headD default) else (cellsZ b.zero vs 0).headD default
def valC (b : TI) (vs : List D) : Prop := bif isSlc b then (bif rawB (vs.headD default) then True else cellsZC b.zero vs 0) else cellsZC b.zero vs 0
theorem isSlc_agg {b : TI} (h : isSlc b = true) : b.td.isAgg = false := by
  unfold isSlc at h; split at h
  · rename_i h2; rw [h2]; rfl
  · cases h
def lookupH (T : Tbl) (H : Heap) (t : Option TI) (key : Bool → Option (List D)) (ok : Bool) : Option D → Option HOut
  | some (.ifc ty (.ptr b 0)) => match mapTI T t with
    | some (a, e) => match mapAt H b (hdrOf a e), key a.td.isAgg with
      | some cs, some k => bif Nat.beq ty itTy then some ⟨bif ok then .tup [valD e (mVal a.zero e.size e.zero k cs), .v (.bool (mHas a.zero e.size k cs))] else valD e (mVal a.zero e.size e.zero k cs), H, .rd b,
          keyC a.zero k ∧ valC e (mVal a.zero e.size e.zero k cs)⟩ else none
      | _, _ => none
    | none => none
  | some (.v (.map none)) => match mapTI T t with
    | some (a, e) => match key a.td.isAgg with
      | some k => some ⟨bif ok then .tup [valD e (e.zero.map .v), .v (.bool false)] else valD e (e.zero.map .v), H, .no, keyC a.zero k ∧ valC e (e.zero.map .v)⟩
      | none => none
    | none => none
  | _ => none
def updateH (T : Tbl) (H : Heap) (t : Option TI) (key val : Bool → Option (List D)) : Option D → Option HOut
  | some (.ifc ty (.ptr b 0)) => match mapTI T t with
    | some (a, e) => match mapAt H b (hdrOf a e), key a.td.isAgg, val e.td.isAgg with
      | some cs, some k, some v => bif Nat.beq ty itTy then some ⟨.v undef, H.set b (some ⟨itTy, (hdrOf a e).map .v ++ mPut a.zero e.size k v cs, true⟩), .wr b, keyC a.zero k ∧ v.length = e.size⟩ else none
      | _, _, _ => none
    | none => none
  | _ => none
def makeMapH (T : Tbl) (H : Heap) (t : Option TI) : Option HOut := match mapTI T t with
  | some (a, e) => some ⟨.ifc itTy (.ptr H.length 0), H ++ [some ⟨itTy, (hdrOf a e).map .v, true⟩], .mk H.length, True⟩
  | none => none
def opH (T : Tbl) (env : Env) (H : Heap) : Op → Option HOut
  | .makeMap t none => makeMapH T H (T t)
  | .lookup t m k ok => lookupH T H (T t) (fun g => cellsP g (opnd env k)) ok (opnd env m)
  | .mapUpdate t m k v => updateH T H (T t) (fun g => cellsP g (opnd env k)) (fun g => cellsP g (opnd env v)) (opnd env m)
  | .insert t m k v => updateH T H (T t) (fun g => cellsP g (opnd env k)) (fun g => cellsP g (opnd env v)) (opnd env m)
  | .range t x => rangeH H (T t) (opnd env x)
  | .next it true => nextH H (opnd env it)
  | .convert s d x => bytesH T H (T s) (T d) (opnd env x)
  | .box elem x => boxH H elem ((opnd env x).bind cellsD)
  | .alloc elem => match T elem with
    | some ti => some ⟨.ptr H.length 0, H ++ [some ⟨elem, ti.zero.map .v, true⟩], .mk H.length, True⟩
    | none => none
  | .load t x => loadH H (T t) (opnd env x)
  | .store t x y => storeH H (T t) ((opnd env y).bind cellsD) (opnd env x)
  | .makeSlice t l c => makeH T H (T t) (opnd env l) (opnd env c)
  | .buildSlice t len parts => buildSliceH T env H (T t) len parts.toList
  | .call { callee := .builtin .append, args, argTypes } => match args.toList with
    | [s, x] => appendH T H argTypes.toList[0]? argTypes.toList[1]? (argTypes.toList[0]?.bind T) (opnd env x) (opnd env s)
    | _ => none
  | _ => none
def RunsTo (P : Program) (o : Oper) (a : Act) (w : World) (v : Value) (w' : World) : Prop :=
  (execOp a.eval o).run P w = .ok (.value v) w' ∨ ((execOp a.eval o).run P w = .ok .skip w' ∧ v = undef)
def Gives (P : Program) (o : Oper) (a : Act) (ρ : Nat → Nat × Nat) (S : Nat → Prop) (w : World) (H H' : Heap) (d : D) : Prop :=
  ∃ v w' ρ', RunsTo P o a w v w' ∧ St ρ' S w' H' ∧ (ctx ρ S w H).le (ctx ρ' S w' H') ∧ Rd (ctx ρ' S w' H') d v
section
variable {P : Program} {T : Tbl} (hT : TblOk P T) {ρ : Nat → Nat × Nat} {S : Nat → Prop} {w : World} {H : Heap}
theorem heap_new (w : World) (o : Obj) : (w.alloc o).heap[w.heap.size]? = some o := heap_alloc_new w o
theorem new_block {ty : TypeId} {cs : List D} {vs : Array Value} (hty : ty ≠ itTy) (hS : St ρ S w H) (hl : RdL (ctx ρ S w H) cs vs.toList) :
    ∃ ρ', St ρ' S (w.alloc (.cells vs ty)) (H ++ [some ⟨ty, cs, true⟩]) ∧ (ctx ρ S w H).le (ctx ρ' S (w.alloc (.cells vs ty)) (H ++ [some ⟨ty, cs, true⟩])) ∧ ρ' H.length = (w.heap.size, vs.size) := by
  have hn : cs.length = vs.toList.length := hl.length.symm
  refine ⟨ext ρ H.length (w.heap.size, vs.size), hS.new (blk := ⟨ty, cs, true⟩) (Grow.alloc w _) (Nat.le_refl _) hty (heap_new w _) ?_ (fun _ => by simpa using hn), le_new (fun k hk => (hS.sub k hk).1) (Grow.alloc w _) (Nat.le_refl _), ext_same _ _ _⟩
  simp only [hn, List.take_length]; exact hl
theorem rd_ptr {ρ' : Nat → Nat × Nat} {w' : World} {H' : Heap} {b id sz off : Nat} (hb : b < H'.length) (h : ρ' b = (id, sz)) : Rd (ctx ρ' S w' H') (.ptr b off) (.pointer (some ⟨id, off, none⟩)) := by
  simp only [Rd]; exact ⟨hb, by simp [h]⟩
theorem load_blk {b off : Nat} {blk : Blk} {t : TypeId} {ti : TI} (hS : St ρ S w H) (hb : H[b]? = some (some blk)) (hit : blk.ty ≠ itTy) (ht : TiOk P t ti) (hc : (partD ti blk.cs off).2) :
    ∃ v, (loadVar t ⟨(ρ b).1, off, none⟩).run P w = .ok v w ∧ Rd (ctx ρ S w H) (partD ti blk.cs off).1 v := by
  by_cases hz : (ρ b).2 = 0
  · have hcs := hS.none b blk hb hz
    rw [hcs] at hc ⊢
    cases hagg : ti.td.isAgg with
    | true =>
      rw [partD_agg hagg] at hc ⊢
      simp only [List.length_nil] at hc
      have h0 : ti.size = 0 := by omega
      refine ⟨.agg #[], ?_, by simp only [Rd]; exact ⟨#[], rfl, by simp [RdL]⟩⟩
      simp [loadVar, ht.run_isAgg, hagg, ht.run_size, h0, loadCells, loadCellsFrom]
    | false =>
      have := (partD_one hagg hc).1
      simp at this
  · obtain ⟨cur, hk⟩ := hS.blk b blk hb (by omega)
    have hcell : ∀ i d, blk.cs[i]? = some d → ∃ u, w.cell? ((⟨(ρ b).1, 0, none⟩ : Addr).add (0 + i)) = some u ∧ u.oneCell' = true ∧ Rd (ctx ρ S w H) d u := by
      intro i d hi
      obtain ⟨u, hu, ho, hd⟩ := hk.pre.get _ _ i d hi
      refine ⟨u, ?_, ho, hd⟩
      rw [Nat.zero_add]
      have hadd : (⟨(ρ b).1, 0, none⟩ : Addr).add i = ⟨(ρ b).1, i, none⟩ := by unfold Addr.add; split <;> simp_all
      have hh := hk.heap.cells hit
      simp only [ctx] at hh
      rw [hadd, cell_of_row w (ρ b).1 i cur blk.ty (0, 0) hh]
      rw [List.getElem?_take] at hu
      split at hu
      · simpa using hu
      · cases hu
    have hat : RdAt (ctx ρ S w H) blk.cs ⟨(ρ b).1, 0, none⟩ 0 := RdAt.mk _ _ _ hcell
    obtain ⟨v, h1, h2⟩ := hat.part (P := P) ht hc
    have hadd : (⟨(ρ b).1, 0, none⟩ : Addr).add off = ⟨(ρ b).1, off, none⟩ := by unfold Addr.add; split <;> simp_all
    rw [hadd] at h1
    exact ⟨v, h1, h2⟩
theorem setAll_segment : ∀ (ys cs : List D) (off : Nat), off + ys.length ≤ cs.length → setAll cs off ys = cs.take off ++ ys ++ cs.drop (off + ys.length)
  | [], cs, off, h => by simp [setAll]
  | y :: ys, cs, off, h => by
    simp only [List.length_cons] at h
    simp only [setAll]
    rw [setAll_segment ys _ _ (by simp; omega)]
    have hlt : off < cs.length := by omega
    rw [List.set_eq_take_append_cons_drop, if_pos hlt]
    have e1 : (cs.take off ++ y :: cs.drop (off + 1)).take (off + 1) = cs.take off ++ [y] := by
      rw [List.take_append]
      simp only [List.length_take, Nat.min_eq_left (Nat.le_of_lt hlt)]
      rw [List.take_of_length_le (by simp; omega)]
      simp
    have e2 : (cs.take off ++ y :: cs.drop (off + 1)).drop (off + 1 + ys.length) = cs.drop (off + (ys.length + 1)) := by
      rw [List.drop_append]
      simp only [List.length_take, Nat.min_eq_left (Nat.le_of_lt hlt)]
      rw [List.drop_of_length_le (by simp; omega)]
      have : off + 1 + ys.length - off = ys.length + 1 := by omega
      rw [this, List.nil_append, List.drop_succ_cons, List.drop_drop]
      congr 1; omega
    rw [e1, e2]
    simp [Nat.add_comm, Nat.add_left_comm, Nat.add_assoc]
theorem store_blk {b off : Nat} {blk : Blk} {t : TypeId} {ti : TI} {ys : List D} {x : Value} (hS : St ρ S w H) (hb : H[b]? = some (some blk)) (hit : blk.ty ≠ itTy) (ht : TiOk P t ti) (hl : RdL (ctx ρ S w H) ys x.cells.toList)
    (hlen : ys.length = ti.size) (hin : off + ti.size ≤ blk.cs.length) :
    ∃ w', (storeVar t ⟨(ρ b).1, off, none⟩ x).run P w = .ok () w' ∧ St ρ S w' (H.set b (some ⟨blk.ty, setAll blk.cs off ys, blk.full⟩)) ∧ (ctx ρ S w H).le (ctx ρ S w' (H.set b (some ⟨blk.ty, setAll blk.cs off ys, blk.full⟩))) := by
  have hxl := hl.length
  have hsz : x.cells.size = ti.size := by rw [← Array.length_toList, hxl, hlen]
  by_cases hz : (ρ b).2 = 0
  · have hcs := hS.none b blk hb hz
    rw [hcs] at hin
    have h0 : ti.size = 0 := by simp only [List.length_nil] at hin; omega
    have hys : ys = [] := List.eq_nil_of_length_eq_zero (by omega)
    have hxs : x.cells.toList = [] := List.eq_nil_of_length_eq_zero (by omega)
    subst hys
    have hset : H.set b (some ⟨blk.ty, setAll blk.cs off [], blk.full⟩) = H := by
      have : (⟨blk.ty, setAll blk.cs off [], blk.full⟩ : Blk) = blk := by simp [setAll]
      rw [this]
      exact List.ext_getElem? fun i => by
        by_cases hi : b = i
        · subst hi; rw [List.getElem?_set_self (List.getElem?_eq_some_iff.1 hb).1, hb]
        · rw [List.getElem?_set_ne hi]
    rw [hset]
    refine ⟨w, ?_, hS, Ctx.le.refl _⟩
    simp [storeVar, ht.run_size, hsz, hxs, storeCells]
  · obtain ⟨cur, hk⟩ := hS.blk b blk hb (by omega)
    have hh := hk.heap.cells hit
    simp only [ctx] at hh
    have hpl := hk.pre.length
    have hcur : blk.cs.length ≤ cur.size := by simp at hpl; omega
    have hst := run_storeCells_at (P := P) (ρ b).1 off blk.ty x.cells.toList 0 cur w hh (by simp; omega) (hl.one)
    have hrun : (storeVar t ⟨(ρ b).1, off, none⟩ x).run P w = .ok () (w.setRow (ρ b).1 (cur.toList.take off ++ x.cells.toList ++ cur.toList.drop (off + x.cells.toList.length)).toArray) := by
      simp only [storeVar, Sem.run_bind, ht.run_size, Result.andThen_ok, hsz, ne_eq, not_true_eq_false, if_false]
      simpa using hst
    have hsize : (w.setRow (ρ b).1 (cur.toList.take off ++ x.cells.toList ++ cur.toList.drop (off + x.cells.toList.length)).toArray).heap.size = w.heap.size := by simp [World.setRow]
    have hother : ∀ k, k ≠ (ρ b).1 → (w.setRow (ρ b).1 (cur.toList.take off ++ x.cells.toList ++ cur.toList.drop (off + x.cells.toList.length)).toArray).heap[k]? = w.heap[k]? := fun k hk => setRow_other w _ k _ hk
    refine ⟨_, hrun, ?_, le_write hS.sub hb (by omega) hsize hother rfl rfl rfl⟩
    have hseg := setAll_segment ys blk.cs off (by omega)
    refine hS.write (cur := (cur.toList.take off ++ x.cells.toList ++ cur.toList.drop (off + x.cells.toList.length)).toArray) hit hb (by omega) hsize hother rfl rfl rfl (setRow_heap w _ cur _ blk.ty _ hh) ?_ ?_ ?_
    · have := hk.size hit; simp; omega
    · show RdL (ctx ρ S w H) (setAll blk.cs off ys) (List.take (setAll blk.cs off ys).length _)
      rw [setAll_length, hseg]
      simp only [List.toList_toArray]
      have e : (cur.toList.take off ++ x.cells.toList ++ cur.toList.drop (off + x.cells.toList.length)).take blk.cs.length =
          (cur.toList.take blk.cs.length).take off ++ x.cells.toList ++ (cur.toList.take blk.cs.length).drop (off + ys.length) := by
        apply List.ext_getElem?
        intro i
        simp only [List.getElem?_take, List.getElem?_append, List.length_append, List.length_take, List.getElem?_drop, Array.length_toList]
        rw [show x.cells.size = ys.length by omega]
        by_cases h1 : i < blk.cs.length
        · simp only [h1, if_true]
          have m1 : min off cur.size = off := by omega
          have m2 : min off (min blk.cs.length cur.size) = off := by omega
          simp only [m1, m2]
          by_cases h2 : i < off + ys.length
          · simp only [h2, if_true]
          · simp only [h2, if_false]
            have h4 : off + ys.length + (i - (off + ys.length)) < blk.cs.length := by omega
            simp [h4]
        · simp only [h1, if_false]
          have m2 : min off (min blk.cs.length cur.size) = off := by omega
          simp only [m2]
          have h2 : ¬ i < off + ys.length := by omega
          simp only [h2, if_false]
          have h4 : ¬ off + ys.length + (i - (off + ys.length)) < blk.cs.length := by omega
          simp [h4]
      rw [e]
      exact RdL.append _ _ _ _ (RdL.append _ _ _ _ (hk.pre.take off) hl) (hk.pre.drop _)
    · intro hf
      have := hk.full hf
      simp [setAll_length]; omega
end
end Go.VD
end
