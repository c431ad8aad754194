/- All pure operations at once; what an operation reads of the frame. -/
import Derived.Test.YthnhfkpihbjddaaVf
namespace Go.VD
set_option linter.unusedVariables false
set_option linter.unusedSimpArgs false

section
variable {P : Program} {T : Tbl} (hT : TblOk P T) {E : Ctx}

theorem intO_bound {env : Env} {ev : Operand → Value} (hg : ∀ x d, opnd env x = some d → Rd E d (ev x)) (x : Option Operand) (b : Option Int) (h : intO env x = some b) : BoundV b (x.map ev) := by
  cases x with
  | none => simp only [intO] at h; injection h with h; subst h; simp [BoundV]
  | some x =>
    simp only [intO] at h
    split at h
    · rename_i k i hgx
      injection h with h; subst h
      have := hg x _ hgx
      simp only [Rd] at this
      simp only [Option.map_some, BoundV]
      exact ⟨k, this⟩
    · cases h

theorem getAll_rd {env : Env} {ev : Operand → Value} (hg : ∀ x d, opnd env x = some d → Rd E d (ev x)) : ∀ (xs : List Operand) (ds : List D), getAll env xs = some ds → RdT E ds (xs.map ev)
  | [], ds, h => by simp only [getAll] at h; injection h with h; subst h; simp [RdT]
  | x :: xs, ds, h => by
    simp only [getAll] at h
    split at h
    · rename_i d ds' h1 h2
      injection h with h; subst h
      simp only [List.map_cons, RdT]
      exact ⟨_, _, rfl, hg x d h1, getAll_rd hg xs ds' h2⟩
    · cases h

theorem run_forIn_all {α : Type} (P : Program) (w : World) (b : α → Bool) : ∀ (l : List α) (step : α → Option Bool × Unit → Sem (ForInStep (Option Bool × Unit))),
    (∀ f ∈ l, (step f (none, ())).run P w = .ok (if b f then .yield (none, ()) else .done (some false, ())) w) → (forIn l (none, ()) step).run P w = .ok (if l.all b then (none, ()) else (some false, ())) w
  | [], step, h => by simp
  | f :: l, step, h => by
    rw [List.forIn_cons]
    simp only [Sem.run_bind, h f (by simp), Result.andThen_ok]
    cases hb : b f with
    | true => simpa [hb] using run_forIn_all P w b l step fun g hg => h g (by simp [hg])
    | false => simp [hb]
theorem bytes_beq (x y : ByteArray) : (x == y) = (x.toList == y.toList) ∨ True := .inr trivial

include hT
theorem eqFs_sound {n : Nat} {us vs : Array Value} {xs ys : List D} (hu : RdL E xs us.toList) (hv : RdL E ys vs.toList)
    (ih : ∀ (t : TypeId) (x y : D) (u v : Value) (b : Bool) (c : Prop), eqD T n (T t) x y = some (b, c) → c → Rd E x u → Rd E y v → ∀ d, n ≤ d → ∀ w, (Op.equalIn d t u v).run P w = .ok b w) {d : Nat} (hd : n ≤ d) (w : World) :
    ∀ (fs : List (Nat × TypeId)) (b : Bool) (c : Prop), eqFs (eqD T n) T xs ys fs = some (b, c) → c →
      ∃ bs : Nat × TypeId → Bool, b = fs.all bs ∧ ∀ f ∈ fs, ((part f.2 us f.1).run P w).andThen (fun a w' => ((part f.2 vs f.1).run P w').andThen fun a' w'' => (Op.equalIn d f.2 a a').run P w'') = .ok (bs f) w
  | [], b, c, h, hc => by
    simp only [eqFs] at h
    obtain ⟨rfl, rfl⟩ := pair_inj h
    exact ⟨fun _ => true, rfl, by simp⟩
  | (off, ft) :: r, b, c, h, hc => by
    simp only [eqFs] at h
    split at h
    · rename_i ti hti
      split at h
      · rename_i b1 c1 b2 c2 h1 h2
        obtain ⟨rfl, rfl⟩ := pair_inj h
        obtain ⟨⟨hc1, hc2⟩, hc3, hc4⟩ := hc
        obtain ⟨a1, e1, r1⟩ := part_sound (P := P) (hT.ok ft ti hti) hu hc1 w
        obtain ⟨a2, e2, r2⟩ := part_sound (P := P) (hT.ok ft ti hti) hv hc2 w
        have hq := ih ft _ _ a1 a2 b1 c1 (by rw [hti]; exact h1) hc3 r1 r2 d hd w
        obtain ⟨bs, hb, hall⟩ := eqFs_sound hu hv ih hd w r b2 c2 h2 hc4
        by_cases hin : (off, ft) ∈ r
        · have hbs := hall _ hin
          simp only [e1, e2, Result.andThen_ok, hq] at hbs
          have hb1 : b1 = bs (off, ft) := by injection hbs
          refine ⟨bs, by rw [List.all_cons, ← hb, hb1], fun f hf => ?_⟩
          rcases List.mem_cons.1 hf with rfl | hf
          · exact hall _ hin
          · exact hall f hf
        · refine ⟨fun f => if f = (off, ft) then b1 else bs f, ?_, fun f hf => ?_⟩
          · simp only [List.all_cons, if_true]
            congr 1
            rw [hb]
            have key : ∀ l : List (Nat × TypeId), (∀ g ∈ l, g ≠ (off, ft)) → l.all bs = l.all (fun f => if f = (off, ft) then b1 else bs f) := by
              intro l
              induction l with
              | nil => intro _; rfl
              | cons g l ihl =>
                intro hne
                simp only [List.all_cons]
                rw [if_neg (hne g (by simp)), ihl fun g' hg' => hne g' (by simp [hg'])]
            exact key r fun g hg e => hin (e ▸ hg)
          · rcases List.mem_cons.1 hf with rfl | hf
            · simp only [e1, e2, Result.andThen_ok, hq, if_true]
            · have hne : f ≠ (off, ft) := fun e => hin (e ▸ hf)
              show _ = Result.ok (if f = (off, ft) then b1 else bs f) w
              rw [if_neg hne]; exact hall f hf
      · cases h
    · cases h
theorem eqD_sound : ∀ (n : Nat) (t : TypeId) (x y : D) (u v : Value) (b : Bool) (c : Prop), eqD T n (T t) x y = some (b, c) → c → Rd E x u → Rd E y v → ∀ d, n ≤ d → ∀ w, (Op.equalIn d t u v).run P w = .ok b w
  | 0, t, x, y, u, v, b, c, h, _, _, _, _, _, _ => by simp [eqD] at h
  | n + 1, t, x, y, u, v, b, c, h, hc, hu, hv, d, hd, w => by
    obtain ⟨d, rfl⟩ : ∃ d', d = d' + 1 := ⟨d - 1, by omega⟩
    cases hti : T t with
    | none => simp [hti, eqD] at h
    | some ti =>
      have hk := hT.ok t ti hti
      simp only [hti, eqD] at h
      split at h
      · rename_i htd
        split at h
        · rename_i k a l b' hkl
          obtain ⟨rfl, rfl⟩ := pair_inj h
          simp only [Rd] at hu hv
          subst hu; subst hv
          simp [Op.equalIn, run_underlying (hk.int htd), hkl]
        · cases h
      · rename_i htd
        obtain ⟨rfl, rfl⟩ := pair_inj h
        simp only [Rd] at hu hv
        subst hu; subst hv
        simp [Op.equalIn, run_underlying (hk.bool htd)]
      · rename_i htd
        obtain ⟨rfl, rfl⟩ := pair_inj h
        simp only [Rd] at hu hv
        subst hu; subst hv
        simp [Op.equalIn, run_underlying (hk.str htd)]
      · rename_i fs xs ys htd
        simp only [Rd] at hu hv
        obtain ⟨us, rfl, hu⟩ := hu
        obtain ⟨vs, rfl, hv⟩ := hv
        obtain ⟨F, hF, hfs⟩ := hk.struct htd
        have heq := hk.eq (by simp [htd, TD.isAgg])
        simp only [eqOkB, hF, Bool.and_eq_true, Bool.not_eq_true'] at heq
        obtain ⟨⟨hnames, hheld⟩, _⟩ := heq
        obtain ⟨bs, hb, hall⟩ := eqFs_sound hT hu hv (fun t x y u v b c => eqD_sound n t x y u v b c) (d := d) (by omega) w fs b c h hc
        simp only [Op.equalIn, Sem.run_bind, run_underlying hF, Result.andThen_ok, run_program, hheld, Bool.false_eq_true, if_false]
        have hfor := run_forIn_all P w (fun f : Field => bs (f.offset, f.type)) F.toList
          (fun f __s => if f.name ≠ "_" then do
              let a ← part f.type us f.offset
              let a' ← part f.type vs f.offset
              let r ← Op.equalIn d f.type a a'
              if (!r) = true then pure (ForInStep.done (some false, ())) else pure (ForInStep.yield (none, ()))
            else pure (ForInStep.yield (none, ()))) (fun f hf => by
            have hn : f.name ≠ "_" := by
              have := List.all_eq_true.1 hnames f hf
              simpa using this
            have := hall (f.offset, f.type) (by rw [← hfs]; exact List.mem_map.2 ⟨f, hf, rfl⟩)
            simp only [ne_eq, hn, not_false_eq_true, if_true, Sem.run_bind]
            cases h1 : (part f.type us f.offset).run P w with
            | ok a w1 =>
              simp only [h1, Result.andThen_ok] at this ⊢
              cases h2 : (part f.type vs f.offset).run P w1 with
              | ok a' w2 =>
                simp only [h2, Result.andThen_ok] at this ⊢
                simp only [this, Result.andThen_ok]
                cases bs (f.offset, f.type) <;> simp
              | halt => simp [h2, Result.andThen] at this
            | halt => simp [h1, Result.andThen] at this)
        rw [Array.forIn_toList] at hfor
        rw [hfor]
        have hbb : b = F.toList.all (fun f => bs (f.offset, f.type)) := by
          rw [hb, ← hfs, List.all_map]; rfl
        simp only [Result.andThen_ok]
        rw [hbb]
        cases F.toList.all (fun f => bs (f.offset, f.type)) <;> simp
      · rename_i m e xs ys htd
        simp only [Rd] at hu hv
        obtain ⟨us, rfl, hu⟩ := hu
        obtain ⟨vs, rfl, hv⟩ := hv
        have hF := hk.arr htd
        split at h
        · rename_i te hte
          obtain ⟨bs, hb, hall⟩ := eqFs_sound hT hu hv (fun t x y u v b c => eqD_sound n t x y u v b c) (d := d) (by omega) w _ b c h hc
          simp only [Op.equalIn, Sem.run_bind, run_underlying hF, Result.andThen_ok, (hT.ok e te hte).run_size]
          have hfor := run_forIn_all P w (fun i : Nat => bs (i * te.size, e)) (List.range' 0 m 1)
            (fun i __s => do
                let a ← part e us (i * te.size)
                let a' ← part e vs (i * te.size)
                let r ← Op.equalIn d e a a'
                if (!r) = true then pure (ForInStep.done (some false, ())) else pure (ForInStep.yield (none, ()))) (fun i hi => by
              have := hall (i * te.size, e) (List.mem_map.2 ⟨i, hi, rfl⟩)
              simp only [Sem.run_bind]
              cases h1 : (part e us (i * te.size)).run P w with
              | ok a w1 =>
                simp only [h1, Result.andThen_ok] at this ⊢
                cases h2 : (part e vs (i * te.size)).run P w1 with
                | ok a' w2 =>
                  simp only [h2, Result.andThen_ok] at this ⊢
                  simp only [this, Result.andThen_ok]
                  cases bs (i * te.size, e) <;> simp
                | halt => simp [h2, Result.andThen] at this
              | halt => simp [h1, Result.andThen] at this)
          rw [Std.Legacy.Range.forIn_eq_forIn_range']
          simp only [Std.Legacy.Range.size, Nat.sub_zero, Nat.add_sub_cancel, Nat.div_one]
          rw [hfor]
          have hbb : b = (List.range' 0 m 1).all (fun i => bs (i * te.size, e)) := by
            rw [hb, arrFs, List.all_map]; rfl
          simp only [Result.andThen_ok]
          rw [hbb]
          cases (List.range' 0 m 1).all (fun i => bs (i * te.size, e)) <;> simp
        · cases h
      · cases h
theorem aggEq_sound {op : BinOp} {t yt ty : TypeId} {x y : Operand} {dst : Option Tmp} {pos : String} {after : Array Edge} {guard : Option (Nat × Bool)} {env : Env} {a : Act} {d : D} {c : Prop}
    (hg : ∀ x d, opnd env x = some d → Rd E d (a.eval x)) (hia : isAggD (opnd env x) = true) (h : aggEq T op (T t) (opnd env x) (opnd env y) = some (d, c)) (hc : c) :
    ∃ v, (execOp a.eval ⟨dst, .binOp op t x y yt, ty, pos, after, guard⟩).run P E.w = .ok (.value v) E.w ∧ Rd E d v := by
  unfold aggEq at h
  split at h
  · rename_i dx dy hx hy
    have h1 := hg x _ hx
    have h2 := hg y _ hy
    have hxa : ∃ xs, dx = .agg xs := by
      rw [hx] at hia; cases dx <;> simp_all [isAggD]
    obtain ⟨xs, rfl⟩ := hxa
    have main : ∀ b c', eqD T 10 (T t) (.agg xs) dy = some (b, c') → c' → ∃ us vs, a.eval x = .agg us ∧ a.eval y = .agg vs ∧ P.eqGuardType P.depth t = false ∧ (Op.equal t (.agg us) (.agg vs)).run P E.w = .ok b E.w := by
      intro b c' he hc'
      have hrun := eqD_sound hT 10 t _ _ (a.eval x) (a.eval y) b c' he hc' h1 h2 Op.maxDepth (by decide) E.w
      cases hti : T t with
      | none => simp [hti, eqD] at he
      | some ti =>
        simp only [hti, eqD] at he
        have hag : ti.td.isAgg = true ∧ ∃ ys, dy = .agg ys := by
          split at he <;> first | (cases he; done) | contradiction | skip
          · rename_i htd hxs; exact ⟨by simp [htd, TD.isAgg], _, rfl⟩
          · rename_i htd hxs; exact ⟨by simp [htd, TD.isAgg], _, rfl⟩
        obtain ⟨hag, ys, rfl⟩ := hag
        simp only [Rd] at h1 h2
        obtain ⟨us, hu, _⟩ := h1
        obtain ⟨vs, hv, _⟩ := h2
        have heq := (hT.ok t ti hti).eq hag
        simp only [eqOkB, Bool.and_eq_true, Bool.not_eq_true'] at heq
        rw [hu, hv] at hrun
        exact ⟨us, vs, hu, hv, heq.2, hrun⟩
    split at h
    · rename_i b c' he
      obtain ⟨rfl, rfl⟩ := pair_inj h
      obtain ⟨us, vs, e1, e2, e3, e4⟩ := main b c' he hc
      exact ⟨.bool b, by simp [execOp, e1, e2, eqGuard, e3, binOp, e4], by simp [Rd]⟩
    · rename_i b c' he
      obtain ⟨rfl, rfl⟩ := pair_inj h
      obtain ⟨us, vs, e1, e2, e3, e4⟩ := main b c' he hc
      exact ⟨.bool !b, by simp [execOp, e1, e2, eqGuard, e3, binOp, e4], by simp [Rd]⟩
    · cases h
  · cases h
theorem nilCmp_sound {op : BinOp} {t yt ty : TypeId} {x y : Operand} {dst : Option Tmp} {pos : String} {after : Array Edge} {guard : Option (Nat × Bool)} {a : Act} {d : D} {c : Prop} {n cp : Nat} {A : Option Addr}
    (h : nilCmp ((T t).map (·.td)) op n = some (d, c)) (hc : c) (h1 : a.eval x = .slice A n cp) (h2 : a.eval y = .slice none 0 0) (hA : 0 < n → A.isNone = false) :
    ∃ v, (execOp a.eval ⟨dst, .binOp op t x y yt, ty, pos, after, guard⟩).run P E.w = .ok (.value v) E.w ∧ Rd E d v := by
  have go : ∀ e, (T t).map (·.td) = some (.slice e) → (op = .eql ∨ op = .neq) → (execOp a.eval ⟨dst, .binOp op t x y yt, ty, pos, after, guard⟩).run P E.w = .ok (.value (.bool (if op = .eql then A.isNone else !A.isNone))) E.w := by
    intro e htd ho
    cases hti : T t with
    | none => simp [hti] at htd
    | some ti =>
      simp [hti] at htd
      simp [execOp, h1, h2, eqGuard_at_slice, binOp_at_slice op ho ((hT.ok t ti hti).slice htd)]
  unfold nilCmp at h
  split at h
  · rename_i htd
    obtain ⟨rfl, rfl⟩ := pair_inj h
    exact ⟨_, go _ htd (.inl rfl), by simp [Rd, hA hc]⟩
  · rename_i htd
    obtain ⟨rfl, rfl⟩ := pair_inj h
    exact ⟨_, go _ htd (.inr rfl), by simp [Rd, hA hc]⟩
  · cases h
theorem opP_sound {o : Oper} {env : Env} {a : Act} {d : D} {c : Prop} (hg : ∀ x d, opnd env x = some d → Rd E d (a.eval x)) (h : opP T env o.op = some (d, c)) (hc : c) :
    ∃ v, (execOp a.eval o).run P E.w = .ok (.value v) E.w ∧ Rd E d v := by
  obtain ⟨dst, op, ty, pos, after, guard⟩ := o
  simp only at h
  cases op
  case move x =>
    simp only [opP, Option.map_eq_some_iff] at h
    obtain ⟨d', h1, h2⟩ := h
    injection h2 with h2 _; subst h2
    exact ⟨_, by simp [execOp], hg x _ h1⟩
  case assign x =>
    simp only [opP, Option.map_eq_some_iff] at h
    obtain ⟨d', h1, h2⟩ := h
    injection h2 with h2 _; subst h2
    exact ⟨_, by simp [execOp], hg x _ h1⟩
  case pick x y z =>
    obtain ⟨b, h1, h2⟩ := pick_sound h hc (fun d' e => hg x d' e) (fun d' e => hg y d' e) (fun d' e => hg z d' e)
    exact ⟨_, by simp [execOp, h1, asBool], h2⟩
  case unOp op t x =>
    simp only [opP, unD] at h
    split at h
    · rename_i u hu
      cases hz : unV op u with
      | none => simp [hz] at h
      | some z =>
        simp only [hz, Option.map_some] at h
        obtain ⟨rfl, rfl⟩ := pair_inj h
        have := hg x _ hu
        simp only [Rd] at this
        exact ⟨z, by simp [execOp, this, unV_sound hz], by simp [Rd]⟩
    · cases h
  case binOp op t x y yt =>
    simp only [opP] at h
    cases hia : isAggD (opnd env x) with
    | true =>
    rw [hia] at h
    simp only [cond_true] at h
    exact aggEq_sound hT hg hia h hc
    | false =>
    rw [hia] at h
    simp only [cond_false, binD] at h
    split at h
    · rename_i u v hu hv
      cases hz : binV ((T t).map (·.td)) op u v with
      | none => simp [hz] at h
      | some z =>
        obtain ⟨z, c'⟩ := z
        simp only [hz, Option.map_some] at h
        obtain ⟨rfl, rfl⟩ := pair_inj h
        have h1 := hg x _ hu
        have h2 := hg y _ hv
        simp only [Rd] at h1 h2
        obtain ⟨e1, e2⟩ := binV_sound hT hz hc x y E.w
        exact ⟨z, by simp [execOp, h1, h2, e1, e2], by simp [Rd]⟩
    · rename_i n xs hu hv
      have h1 := hg x _ hu
      have h2 := hg y _ hv
      simp only [Rd] at h1 h2
      obtain ⟨_, A, cp, h1, _, _, h3⟩ := h1
      exact nilCmp_sound hT h hc h1 h2 (fun h0 => by obtain ⟨ad, e, _⟩ := h3 h0; rw [e]; rfl)
    · rename_i b off n cp hu hv
      have h1 := hg x _ hu
      have h2 := hg y _ hv
      cases cp with
      | exact c0 es =>
        simp only [Rd] at h1 h2
        obtain ⟨_, h3, _, A, h1, h4⟩ := h1
        exact nilCmp_sound hT h hc h1 h2 (fun h0 => by rw [h4 (by omega)]; rfl)
      | toEnd es =>
        simp only [Rd] at h1 h2
        obtain ⟨_, A, c0, h1, h3, _, _, h4⟩ := h1
        exact nilCmp_sound hT h hc h1 h2 (fun h0 => by rw [h4 (by omega)]; rfl)
    · cases h
  case convert s t x =>
    simp only [opP, convD] at h
    split at h
    · rename_i u hu
      cases hz : convV ((T s).map (·.td)) ((T t).map (·.td)) u with
      | none => simp [hz] at h
      | some z =>
        simp only [hz, Option.map_some] at h
        obtain ⟨rfl, rfl⟩ := pair_inj h
        have := hg x _ hu
        simp only [Rd] at this
        exact ⟨z, by simp [execOp, this, convV_sound hT hz], by simp [Rd]⟩
    · cases h
  case fieldAddr s x f =>
    obtain ⟨v, h1, h2⟩ := fieldAddr_sound hT h hc (fun d' e => hg x d' e) E.w
    exact ⟨v, by simp [execOp, h1], h2⟩
  case field s x f =>
    obtain ⟨v, h1, h2⟩ := field_sound hT h hc (fun d' e => hg x d' e) E.w
    exact ⟨v, by simp [execOp, h1], h2⟩
  case indexAddr t x i =>
    obtain ⟨v, h1, h2⟩ := indexAddr_sound hT h hc (fun d' e => hg x d' e) (fun d' e => hg i d' e) E.w
    exact ⟨v, by simp [execOp, h1], h2⟩
  case index t x i =>
    obtain ⟨v, h1, h2⟩ := index_sound hT h hc (fun d' e => hg x d' e) (fun d' e => hg i d' e) E.w
    exact ⟨v, by simp [execOp, h1], h2⟩
  case load t x =>
    obtain ⟨v, h1, h2⟩ := load_sound hT h hc (fun d' e => hg x d' e)
    exact ⟨v, by simp [execOp, h1], h2⟩
  case extract x i =>
    obtain ⟨v, h1, h2⟩ := extract_sound (P := P) h (fun d' e => hg x d' e) E.w
    exact ⟨v, by simp [execOp, h1], h2⟩
  case slice t x lo hi mx =>
    obtain ⟨v, h1, h2⟩ := slice_sound hT h hc (fun d' e => hg x d' e) (intO_bound hg lo) (intO_bound hg hi) (intO_bound hg mx) E.w
    exact ⟨v, by simp [execOp, h1], h2⟩
  case build t parts =>
    obtain ⟨v, h1, h2⟩ := build_sound hT hg h E.w
    exact ⟨v, by simp only [execOp, Sem.run_bind, h1, Result.andThen_ok, Sem.run_pure], h2⟩
  case makeInterface t x =>
    simp only [opP, ifcD] at h
    split at h
    · rename_i dx hdx
      split at h
      · rename_i ti ht
        split at h
        · cases h
        · rename_i hne
          obtain ⟨rfl, rfl⟩ := pair_inj h
          obtain ⟨dd, h1, h2⟩ := (hT.ok t ti ht).und
          refine ⟨.iface t (a.eval x), ?_, by simp only [Rd]; exact ⟨_, rfl, hg x _ hdx⟩⟩
          have : ∀ ms, dd ≠ .interface ms := fun ms e => by subst e; cases htd : ti.td <;> simp_all [TD.fits]
          simp only [execOp, Instr.makeInterface, Sem.run_bind, run_underlying h1, Result.andThen_ok, Sem.run_pure]
      · cases h
    · cases h
  case makeFunc fn first caps =>
    simp only [opP, funcD] at h
    split at h
    · cases hz : getAll env (first.toList ++ caps.toList) with
      | none => simp [hz] at h
      | some ds =>
        simp only [hz, Option.map_some] at h
        obtain ⟨rfl, rfl⟩ := pair_inj h
        refine ⟨.func (.func _) (first.map a.eval) (caps.map a.eval), by simp [execOp, Instr.makeFunc]; rfl, ?_⟩
        simp only [Rd]
        exact ⟨_, _, rfl, by simp, by simpa using getAll_rd hg _ _ hz⟩
    · cases h
  case nilCheck x =>
    simp only [opP, nilCheckD] at h
    split at h
    · rename_i hx
      obtain ⟨rfl, rfl⟩ := pair_inj h
      have hr := hg x _ hx
      have hr' := hr
      simp only [Rd] at hr'
      refine ⟨a.eval x, ?_, hr⟩
      simp only [execOp]
      rw [hr'.2]; rfl
    · rename_i hx
      obtain ⟨rfl, rfl⟩ := pair_inj h
      have hr := hg x _ hx
      have hr' := hr
      simp only [Rd] at hr'
      obtain ⟨_, ad, e, _⟩ := hr'
      refine ⟨a.eval x, ?_, hr⟩
      simp only [execOp]
      rw [e]; rfl
    · cases h
  case call cl =>
    obtain ⟨callee, args, argTypes⟩ := cl
    cases callee with
    | value f => simp [opP] at h
    | invoke r m => simp [opP] at h
    | builtin b =>
      simp only [opP, callB] at h
      split at h
      · rename_i x t hargs hts
        have e1 : args = #[x] := by rw [← Array.toList_inj, hargs]
        have e2 : argTypes = #[t] := by rw [← Array.toList_inj, hts]
        subst e1; subst e2
        obtain ⟨v, h1, h2⟩ := len_sound hT (ty := ty) h (fun d' e => hg x d' e) E.w
        exact ⟨v, by simp [execOp, resolve, invoke, builtin, h1], h2⟩
      · rename_i x t hargs hts
        have e1 : args = #[x] := by rw [← Array.toList_inj, hargs]
        have e2 : argTypes = #[t] := by rw [← Array.toList_inj, hts]
        subst e1; subst e2
        obtain ⟨v, h1, h2⟩ := cap_sound hT (ty := ty) h (fun d' e => hg x d' e) E.w
        exact ⟨v, by simp [execOp, resolve, invoke, builtin, h1], h2⟩
      · rename_i x y hargs
        have e1 : args = #[x, y] := by rw [← Array.toList_inj, hargs]
        subst e1
        obtain ⟨v, h1, h2⟩ := mm_sound (P := P) h (fun d' e => hg x d' e) (fun d' e => hg y d' e) argTypes ty E.w
        simp only [if_true] at h1
        exact ⟨v, by simp [execOp, resolve, invoke, builtin, h1], h2⟩
      · rename_i x y hargs
        have e1 : args = #[x, y] := by rw [← Array.toList_inj, hargs]
        subst e1
        obtain ⟨v, h1, h2⟩ := mm_sound (P := P) h (fun d' e => hg x d' e) (fun d' e => hg y d' e) argTypes ty E.w
        simp only [Bool.false_eq_true, if_false] at h1
        exact ⟨v, by simp [execOp, resolve, invoke, builtin, h1], h2⟩
      · rename_i x y z r hargs
        obtain ⟨v, h1, h2⟩ := mmA_run (P := P) h (args := args.map a.eval) (fun ds e => by rw [Array.toList_map, hargs]; exact getAll_rd hg _ _ e) argTypes ty E.w
        simp only [if_true] at h1
        exact ⟨v, by simp [execOp, resolve, invoke, builtin, h1], h2⟩
      · rename_i x y z r hargs
        obtain ⟨v, h1, h2⟩ := mmA_run (P := P) h (args := args.map a.eval) (fun ds e => by rw [Array.toList_map, hargs]; exact getAll_rd hg _ _ e) argTypes ty E.w
        simp only [Bool.false_eq_true, if_false] at h1
        exact ⟨v, by simp [execOp, resolve, invoke, builtin, h1], h2⟩
      · cases h
  all_goals (simp [opP] at h)
omit hT

/-! ### What an operation reads of the frame -/
def opSlots (op : Op) : List Nat := op.operands.toList.filterMap fun | .tmp t => some t | _ => none

theorem get_of_lookup {env env' : Env} {op : Op} (h : ∀ t ∈ opSlots op, env.lookup t = env'.lookup t) (x : Operand) (hx : x ∈ op.operands.toList) : opnd env x = opnd env' x := by
  cases x with
  | tmp t => exact h t (by simp only [opSlots, List.mem_filterMap]; exact ⟨.tmp t, hx, rfl⟩)
  | const v => cases v <;> rfl
  | global g => rfl
  | func f => rfl
theorem getAll_congr {env env' : Env} : ∀ (xs : List Operand), (∀ x ∈ xs, opnd env x = opnd env' x) → getAll env xs = getAll env' xs
  | [], _ => rfl
  | x :: xs, h => by simp only [getAll, h x (by simp), getAll_congr xs fun y hy => h y (by simp [hy])]
theorem fillD_congr {env env' : Env} {place : Nat → Option (Nat × Nat)} : ∀ (ps : List (Nat × Operand)) (cs : List D), (∀ p ∈ ps, opnd env p.2 = opnd env' p.2) → fillD place env cs ps = fillD place env' cs ps
  | [], _, _ => rfl
  | (i, x) :: ps, cs, h => by
    have h0 := h (i, x) (by simp)
    simp only at h0
    simp only [fillD, h0]
    split
    · split
      · exact fillD_congr ps _ fun p hp => h p (by simp [hp])
      · rfl
    · rfl
theorem intO_congr {env env' : Env} {x : Option Operand} (h : ∀ y, x = some y → opnd env y = opnd env' y) : intO env x = intO env' x := by
  cases x with
  | none => rfl
  | some x => simp only [intO, h x rfl]
theorem opP_congr {T : Tbl} {env env' : Env} {op : Op} (h : ∀ t ∈ opSlots op, env.lookup t = env'.lookup t) : opP T env op = opP T env' op := by
  have hx := get_of_lookup h
  cases op
  case build t parts =>
    have : ∀ p ∈ parts.toList, opnd env p.2 = opnd env' p.2 := fun p hp => hx p.2 (by simp only [Op.operands, List.toList_toArray, List.mem_map]; exact ⟨p, hp, rfl⟩)
    simp only [opP, buildD, fillD_congr parts.toList _ this]
  case makeFunc fn first caps =>
    have : ∀ x ∈ first.toList ++ caps.toList, opnd env x = opnd env' x := fun x hm => hx x (by simpa [Op.operands] using hm)
    simp only [opP, funcD, getAll_congr _ this]
  case slice t x lo hi mx =>
    have e0 := hx x (by simp [Op.operands])
    have e1 : intO env lo = intO env' lo := intO_congr fun y hy => hx y (by subst hy; simp [Op.operands])
    have e2 : intO env hi = intO env' hi := intO_congr fun y hy => hx y (by subst hy; simp [Op.operands])
    have e3 : intO env mx = intO env' mx := intO_congr fun y hy => hx y (by subst hy; simp [Op.operands])
    simp only [opP, e0, e1, e2, e3]
  case call c =>
    obtain ⟨callee, args, ts⟩ := c
    cases callee with
    | value f => rfl
    | invoke r m => rfl
    | builtin b =>
      have : ∀ x ∈ args.toList, opnd env x = opnd env' x := fun x hm => hx x (by simpa [Op.operands, Call.operands] using hm)
      simp only [opP, callB]
      generalize args.toList = l at this ⊢
      generalize ts.toList = r
      split
      case h_5 => rw [getAll_congr _ this]
      case h_6 => rw [getAll_congr _ this]
      all_goals simp_all
  all_goals first
    | rfl
    | (simp only [opP]; congr 1 <;> first | rfl | exact hx _ (by simp [Op.operands]) | (congr 1 <;> first | rfl | exact hx _ (by simp [Op.operands])))
end
end Go.VD
