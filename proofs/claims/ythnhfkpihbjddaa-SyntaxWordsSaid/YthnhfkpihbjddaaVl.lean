/- A region on data: one walk in the text's order serves every order that its edges allow. -/
import Derived.Test.YthnhfkpihbjddaaVk
import Derived.StillTail
namespace Go.VD
set_option linter.unusedVariables false
set_option linter.unusedSimpArgs false

def bindD (dst : Option Nat) (d : D) (env : Env) : Env := match dst with
  | none => env
  | some t => (t, d) :: env
def gslot (ops : Array Oper) (j : Nat) : Option Nat := (ops[j]?).bind (·.dst)

def Wt : Tch → Nat → Prop
  | .wr c, b => c = b
  | .mk n, b => n ≤ b
  | .al, _ => True
  | _, _ => False
def Rt : Tch → Nat → Prop
  | .rd c, b => c = b
  | .wr c, b => c = b
  | .ra, _ => True
  | .al, _ => True
  | _, _ => False
def Lw : Tch → Prop
  | .mk _ => True
  | .al => True
  | _ => False
def Rl : Tch → Prop
  | .mk _ => True
  | .ra => True
  | .al => True
  | _ => False
/-- two operations that may not change places -/
def clash : Tch → Tch → Bool
  | .no, _ => false
  | _, .no => false
  | .rd _, .rd _ => false
  | .rd _, .ra => false
  | .ra, .rd _ => false
  | .ra, .ra => false
  | .rd b, .wr c => b == c
  | .wr b, .rd c => b == c
  | .wr b, .wr c => b == c
  | .rd b, .mk n => decide (n ≤ b)
  | .mk n, .rd b => decide (n ≤ b)
  | .wr b, .mk n => decide (n ≤ b)
  | .mk n, .wr b => decide (n ≤ b)
  | _, _ => true
theorem clash_wr {t u : Tch} {b : Nat} (h : Wt t b) (k : Rt u b) : clash t u = true := by
  cases t <;> cases u <;> simp_all [Wt, Rt, clash]
theorem clash_rw {t u : Tch} {b : Nat} (h : Rt t b) (k : Wt u b) : clash t u = true := by
  cases t <;> cases u <;> simp_all [Wt, Rt, clash]
theorem clash_ww {t u : Tch} {b : Nat} (h : Wt t b) (k : Wt u b) : clash t u = true := by
  cases t <;> cases u <;> simp_all [Wt, clash]
theorem clash_lr {t u : Tch} (h : Lw t) (k : Rl u) : clash t u = true := by
  cases t <;> cases u <;> simp_all [Lw, Rl, clash]
theorem clash_rl {t u : Tch} (h : Rl t) (k : Lw u) : clash t u = true := by
  cases t <;> cases u <;> simp_all [Lw, Rl, clash]
theorem clash_ll {t u : Tch} (h : Lw t) (k : Lw u) : clash t u = true := by
  cases t <;> cases u <;> simp_all [Lw, clash]

/-- a step that leads from H to H', and what it does over a heap that is H where it looks -/
structure StepF (P : Program) (o : Oper) (env : Env) (t : Tch) (d : D) (H H' : Heap) : Prop where
  run : ∀ H1 : Heap, (∀ b, Rt t b → H1[b]? = H[b]?) → (Rl t → H1.length = H.length) → ∃ H1' : Heap, Step P o env H1 d H1' ∧ (∀ b, Wt t b → H1'[b]? = H'[b]?) ∧ (∀ b, ¬ Wt t b → H1'[b]? = H1[b]?) ∧ (Lw t → H1'.length = H'.length) ∧ (¬ Lw t → H1'.length = H1.length)
  keep : ∀ b, ¬ Wt t b → H'[b]? = H[b]?
  len : ¬ Lw t → H'.length = H.length
section
variable {P : Program} {o : Oper} {env : Env} {d : D} {H H' : Heap}
theorem StepF.of_no (h : StepP P o env d) : StepF P o env .no d H H := ⟨fun H1 _ _ => ⟨H1, h H1, fun b hb => hb.elim, fun b _ => rfl, fun hl => hl.elim, fun _ => rfl⟩, fun b _ => rfl, fun _ => rfl⟩
theorem StepF.of_rd {b : Nat} (h : ∀ H1 : Heap, H1[b]? = H[b]? → Step P o env H1 d H1) : StepF P o env (.rd b) d H H := ⟨fun H1 h1 _ => ⟨H1, h H1 (h1 b rfl), fun b hb => hb.elim, fun b _ => rfl, fun hl => hl.elim, fun _ => rfl⟩, fun b _ => rfl, fun _ => rfl⟩
theorem StepF.of_wr {b : Nat} {y : Option Blk} (h : ∀ H1 : Heap, H1[b]? = H[b]? → Step P o env H1 d (H1.set b y)) : StepF P o env (.wr b) d H (H.set b y) := by
  refine ⟨fun H1 h1 _ => ⟨H1.set b y, h H1 (h1 b rfl), fun c hc => ?_, fun c hc => ?_, fun hl => hl.elim, fun _ => by simp⟩, fun c hc => ?_, fun _ => by simp⟩
  · have hc : b = c := hc
    subst hc
    have := h1 b rfl
    rw [List.getElem?_set_self', List.getElem?_set_self', this]
  · rw [List.getElem?_set_ne (fun e => hc e)]
  · rw [List.getElem?_set_ne (fun e => hc e)]
theorem StepF.of_mk {L : Heap} (h : ∀ H1 : Heap, H1.length = H.length → Step P o env H1 d (H1 ++ L)) : StepF P o env (.mk H.length) d H (H ++ L) := by
  refine ⟨fun H1 _ h2 => ?_, fun c hc => ?_, fun hl => absurd trivial hl⟩
  · have h2 := h2 trivial
    refine ⟨H1 ++ L, h H1 h2, fun c hc => ?_, fun c hc => ?_, fun _ => by simp [h2], fun hl => absurd trivial hl⟩
    · have hc : H.length ≤ c := hc
      rw [List.getElem?_append_right (by omega), List.getElem?_append_right (by omega), h2]
    · have hc : ¬ H.length ≤ c := hc
      rw [List.getElem?_append_left (by omega)]
  · have hc : ¬ H.length ≤ c := hc
    rw [List.getElem?_append_left (by omega)]
theorem StepF.of_ra (h : Step P o env H d H) : StepF P o env .ra d H H := ⟨fun H1 h1 _ => by
  have : H1 = H := List.ext_getElem? fun b => h1 b trivial
  subst this
  exact ⟨H1, h, fun b hb => hb.elim, fun b _ => rfl, fun hl => hl.elim, fun _ => rfl⟩, fun b _ => rfl, fun _ => rfl⟩
theorem StepF.of_al (h : Step P o env H d H') : StepF P o env .al d H H' := ⟨fun H1 h1 _ => by
  have : H1 = H := List.ext_getElem? fun b => h1 b trivial
  subst this
  exact ⟨H', h, fun b _ => rfl, fun b hb => absurd trivial hb, fun _ => rfl, fun hl => absurd trivial hl⟩, fun b hb => absurd trivial hb, fun hl => absurd trivial hl⟩
theorem StepF.here {t : Tch} (h : StepF P o env t d H H') : Step P o env H d H' := by
  obtain ⟨H1', h1, h2, h3, _, _⟩ := h.run H (fun _ _ => rfl) (fun _ => rfl)
  have : H1' = H' := List.ext_getElem? fun b => by
    by_cases hb : Wt t b
    · exact h2 b hb
    · rw [h3 b hb, h.keep b hb]
  rw [← this]; exact h1
theorem StepF.congr {t : Tch} {env' : Env} (h : StepF P o env t d H H') (e : ∀ t, env.lookup t = env'.lookup t) : StepF P o env' t d H H' :=
  ⟨fun H1 h1 h2 => by
    obtain ⟨H1', g1, g2⟩ := h.run H1 h1 h2
    exact ⟨H1', fun ρ S w a hS hr => g1 ρ S w a hS fun t ht d' hl => hr t ht d' (by rw [← e]; exact hl), g2⟩, h.keep, h.len⟩
end

/-- a step in the text's order -/
def StepAt (P : Program) (nt : Nat) (ops : Array Oper) (o : Oper) (env : Env) (H : Heap) (t : Tch) (env' : Env) (H' : Heap) : Prop :=
  (∀ s, o.dst = some s → s < nt) ∧
  ((∃ j want s, o.guard = some (j, want) ∧ gslot ops j = some s ∧ (env.lookup s = some (.v (.bool (!want))) ∨ env.lookup s = some (.v undef)) ∧ t = .no ∧ H' = H ∧ ∀ s, env'.lookup s = (bindD o.dst (.v undef) env).lookup s) ∨
   ((∀ j want, o.guard = some (j, want) → ∃ s, gslot ops j = some s ∧ env.lookup s = some (.v (.bool want))) ∧
    ∃ d, (∀ s, env'.lookup s = (bindD o.dst d env).lookup s) ∧ StepF P o env t d H H'))

structure Inv (nt : Nat) (ρ : Nat → Nat × Nat) (S : Nat → Prop) (w : World) (H : Heap) (env : Env) (a : Act) : Prop where
  st : St ρ S w H
  env : ∀ t d, env.lookup t = some d → Rd (ctx ρ S w H) d (a.tmps.getD t undef)
  size : a.tmps.size = nt
  defers : a.defers = []

theorem getD_put {a : Act} {dst : Option Tmp} {v : Value} {t : Nat} (h : dst ≠ some t) : (a.put dst v).tmps.getD t undef = a.tmps.getD t undef := by
  cases dst with
  | none => rfl
  | some s =>
    have hs : s ≠ t := fun e => h (by rw [e])
    simp only [Act.put, Array.getD_eq_getD_getElem?, Array.getElem?_setIfInBounds]
    rw [if_neg hs]
theorem getD_put_same {a : Act} {v : Value} {t : Nat} (h : t < a.tmps.size) : (a.put (some t) v).tmps.getD t undef = v := by
  simp [Act.put, Array.getD_eq_getD_getElem?, h]
theorem size_put {a : Act} {dst : Option Tmp} {v : Value} : (a.put dst v).tmps.size = a.tmps.size := by cases dst <;> simp [Act.put]
theorem defers_put {a : Act} {dst : Option Tmp} {v : Value} : (a.put dst v).defers = a.defers := by cases dst <;> rfl
theorem lookup_bindD {dst : Option Nat} {d : D} {env : Env} {s : Nat} : (bindD dst d env).lookup s = if dst = some s then some d else env.lookup s := by
  cases dst with
  | none => simp [bindD]
  | some t =>
    simp only [bindD, List.lookup_cons]
    by_cases h : s = t
    · subst h; simp
    · have h1 : (s == t) = false := by simpa using h
      have h2 : ¬ t = s := fun e => h e.symm
      simp [h1, h2]

theorem yielded_of {ops : Array Oper} {tmps : Array Value} {j s : Nat} {b : Bool} (hs : gslot ops j = some s) (hlt : s < tmps.size) (hv : tmps.getD s undef = .bool b) : yielded ops tmps j = some b := by
  unfold gslot at hs
  have : tmps[s]? = some (.bool b) := by
    rw [Array.getD_eq_getD_getElem?, Array.getElem?_eq_getElem hlt] at hv
    rw [Array.getElem?_eq_getElem hlt]
    simpa using hv
  simp [yielded, hs, this]

/-- an operation whose guard is not met, or was not computed -/
theorem unwanted_of {ops : Array Oper} {a : Act} {o : Oper} {j s : Nat} {want : Bool} {E : Ctx} {env : Env} (hgu : o.guard = some (j, want)) (hs : gslot ops j = some s) (hlt : s < a.tmps.size)
    (hl : env.lookup s = some (.v (.bool (!want))) ∨ env.lookup s = some (.v undef)) (hrd : ∀ d, env.lookup s = some d → Rd E d (a.tmps.getD s undef)) : Region.wanted o (yielded ops a.tmps) = false := by
  rcases hl with hl | hl
  · have hv := hrd _ hl
    simp only [Rd] at hv
    have hy := yielded_of hs hlt hv
    simp only [Region.wanted, hgu, hy]; cases want <;> rfl
  · have hv := hrd _ hl
    simp only [Rd] at hv
    have : yielded ops a.tmps j = none := by
      unfold gslot at hs
      have h1 : a.tmps[s]? = some undef := by
        rw [Array.getD_eq_getD_getElem?, Array.getElem?_eq_getElem hlt] at hv
        rw [Array.getElem?_eq_getElem hlt]
        simpa using hv
      simp [yielded, hs, h1, undef]
    simp [Region.wanted, hgu, this]

section
variable {P : Program} {nt : Nat} {ops : Array Oper}

/-! ### In the text's order -/
theorem seq_sound {Q : Exit → Act → World → Prop} : ∀ (l : List Oper) (envs : Nat → Env) (Hs : Nat → Heap) (ts : Nat → Tch),
    (∀ j s, gslot ops j = some s → s < nt) → (∀ k o, l[k]? = some o → StepAt P nt ops o (envs k) (Hs k) (ts k) (envs (k + 1)) (Hs (k + 1))) →
    ∀ ρ S w a, Inv nt ρ S w (Hs 0) (envs 0) a → (∀ ρ' S' w' a', Inv nt ρ' S' w' (Hs l.length) (envs l.length) a' → (ctx ρ S w (Hs 0)).le (ctx ρ' S' w' (Hs l.length)) → Q .normal a' w') → wpList P ops Q l a w
  | [], envs, Hs, ts, hg, hs, ρ, S, w, a, hi, hq => hq ρ S w a hi (Ctx.le.refl _)
  | o :: l, envs, Hs, ts, hg, hs, ρ, S, w, a, hi, hq => by
    obtain ⟨hdst, hstep⟩ := hs 0 o (by simp)
    have ih := seq_sound (Q := Q) l (fun k => envs (k + 1)) (fun k => Hs (k + 1)) (fun k => ts (k + 1)) hg (fun k o' hk => hs (k + 1) o' (by simpa using hk))
    rcases hstep with ⟨j, want, s, hgu, hsl, hlk, _, hH, henv⟩ | ⟨hwant, d, henv, hrun⟩
    · have hw : Region.wanted o (yielded ops a.tmps) = false := unwanted_of hgu hsl (by rw [hi.size]; exact hg _ _ hsl) hlk (fun d hd => hi.env s d hd)
      simp only [wpList, hw, Bool.false_eq_true, if_false]
      refine ih ρ S w _ ⟨by rw [Nat.zero_add, hH]; exact hi.st, fun t d ht => ?_, by rw [size_put]; exact hi.size, by rw [defers_put]; exact hi.defers⟩ (fun ρ' S' w' a' h1 h2 => hq ρ' S' w' a' h1 (by rw [Nat.zero_add, hH] at h2; exact h2))
      rw [Nat.zero_add] at ht
      rw [henv, lookup_bindD] at ht
      rw [Nat.zero_add, hH]
      split at ht
      · rename_i hd
        injection ht with ht; subst ht
        rw [hd, getD_put_same (by rw [hi.size]; exact hdst _ hd)]; simp [Rd]
      · rename_i hd
        rw [getD_put hd]; exact hi.env t d ht
    · have hw : Region.wanted o (yielded ops a.tmps) = true := by
        cases hgu : o.guard with
        | none => simp [Region.wanted, hgu]
        | some p =>
          obtain ⟨j, want⟩ := p
          obtain ⟨s, hsl, hlk⟩ := hwant j want hgu
          have hv := hi.env s _ hlk
          simp only [Rd] at hv
          have hy := yielded_of hsl (by rw [hi.size]; exact hg _ _ hsl) hv
          simp [Region.wanted, hgu, hy]
      simp only [wpList, hw, if_true]
      refine .inl ?_
      have hst : Step P o (envs 0) (Hs 0) d (Hs 1) := hrun.here
      refine hst ρ S w a hi.st (fun t _ d' ht => hi.env t d' ht) _ _ fun v ρ' S' w' h1 h2 h3 => ?_
      refine ih ρ' S' w' _ ⟨by rw [Nat.zero_add]; exact h1, fun t d' ht => ?_, by rw [size_put]; exact hi.size, by rw [defers_put]; exact hi.defers⟩ (fun ρ'' S'' w'' a' h4 h5 => hq ρ'' S'' w'' a' h4 (h2.trans (by rw [Nat.zero_add] at h5; exact h5)))
      rw [Nat.zero_add] at ht
      rw [henv, lookup_bindD] at ht
      rw [Nat.zero_add]
      split at ht
      · rename_i hd
        injection ht with ht; subst ht
        rw [hd, getD_put_same (by rw [hi.size]; exact hdst _ hd)]; exact h3
      · rename_i hd
        rw [getD_put hd]; exact (hi.env t d' ht).mono h2 _ _

/-! ### In every order -/
def slotsOf (ops : Array Oper) (o : Oper) : List Nat := opSlots o.op ++ (match o.guard with | some (j, _) => (gslot ops j).toList | none => [])
def directL (o : Oper) : List Nat := (o.after.toList.filter (Region.binds .any ·)).map (·.on)
def dd : List Nat → List Nat
  | [] => []
  | x :: xs => if (dd xs).contains x then dd xs else x :: dd xs
theorem mem_dd {x : Nat} : ∀ {l : List Nat}, x ∈ dd l → x ∈ l
  | [], h => h
  | y :: l, h => by
    simp only [dd] at h
    split at h
    · exact List.mem_cons_of_mem _ (mem_dd h)
    · rcases List.mem_cons.1 h with h | h
      · exact h ▸ List.mem_cons_self
      · exact List.mem_cons_of_mem _ (mem_dd h)
def predsL : List Oper → List (List Nat) → List (List Nat)
  | [], acc => acc
  | o :: r, acc => predsL r (acc ++ [dd ((directL o).flatMap fun i => i :: acc.getD i [])])
def slotClash (ops : Array Oper) (ok oj : Oper) : Bool :=
  (match ok.dst with | some t => (slotsOf ops oj).contains t | none => false) || (match oj.dst with | some t => (slotsOf ops ok).contains t | none => false)
def sameDst (ok oj : Oper) : Bool := match ok.dst, oj.dst with
  | some s, some t => s == t
  | _, _ => false
def regOk (ops : Array Oper) (ts : List Tch) : Bool :=
  let pr := predsL ops.toList []
  (List.range ops.size).all fun j => match ops[j]? with
    | none => true
    | some oj => (directL oj).all (· < j) && (List.range j).all fun k => match ops[k]? with
      | none => true
      | some ok => (!slotClash ops ok oj || (directL oj).contains k) && !sameDst ok oj && ((pr.getD j []).contains k || !clash (ts.getD k .no) (ts.getD j .no))

def Closed (ops : Array Oper) (listed : Array Bool) : Prop := ∀ j o, ops[j]? = some o → listed.getD j false = true → ∀ i ∈ directL o, listed.getD i false = true

theorem predsL_good : ∀ (l : List Oper) (acc : List (List Nat)), (∀ (i : Nat) (o : Oper), l[i]? = some o → ops[acc.length + i]? = some o) →
    (∀ (i : Nat) (p : List Nat), acc[i]? = some p → ∀ k ∈ p, ∀ listed, Closed ops listed → (∀ (o : Oper), ops[i]? = some o → ∀ e ∈ directL o, listed.getD e false = true) → listed.getD k false = true) →
    ∀ (i : Nat) (p : List Nat), (predsL l acc)[i]? = some p → ∀ k ∈ p, ∀ listed, Closed ops listed → (∀ (o : Oper), ops[i]? = some o → ∀ e ∈ directL o, listed.getD e false = true) → listed.getD k false = true
  | [], acc, _, h => h
  | o :: r, acc, hl, h => by
    refine predsL_good r _ (fun i o' hi => ?_) ?_
    · have := hl (i + 1) o' (by simpa using hi)
      simp only [List.length_append, List.length_singleton]
      rwa [Nat.add_assoc, Nat.add_comm 1 i]
    · intro i p hp k hk listed hc hd
      rcases getElem?_snoc_cases hp with ⟨_, hp⟩ | ⟨rfl, hpe⟩
      · exact h i p hp k hk listed hc hd
      · rw [← hpe] at hk
        have h0 : ops[acc.length]? = some o := by have := hl 0 o (by simp); simpa using this
        have hk := mem_dd hk
        obtain ⟨e, he, hk⟩ := List.mem_flatMap.1 hk
        have hle := hd o h0 e he
        rcases List.mem_cons.1 hk with rfl | hk
        · exact hle
        · rw [List.getD_eq_getElem?_getD] at hk
          cases hacc : acc[e]? with
          | none => simp [hacc] at hk
          | some q =>
            simp only [hacc, Option.getD_some] at hk
            exact h e q hacc k hk listed hc fun oe hoe => hc e oe hoe hle

theorem mem_directL {o : Oper} {k : Nat} : k ∈ directL o ↔ ∃ e ∈ o.after, Region.binds .any e = true ∧ e.on = k := by
  simp only [directL, List.mem_map, List.mem_filter, Array.mem_toList_iff]
  constructor
  · rintro ⟨e, ⟨h1, h2⟩, h3⟩; exact ⟨e, h1, h2, h3⟩
  · rintro ⟨e, h1, h2, h3⟩; exact ⟨e, ⟨h1, h2⟩, h3⟩
end
end Go.VD
