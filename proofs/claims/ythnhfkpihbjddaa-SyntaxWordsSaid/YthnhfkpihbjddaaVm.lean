/- A region that draws its order: the theorem. -/
import Derived.Test.YthnhfkpihbjddaaVl
namespace Go.VD
set_option linter.unusedVariables false
set_option linter.unusedSimpArgs false

section
variable {P : Program} {nt : Nat} {ops : Array Oper}

/-- what slot t holds while the operations 'listed' have been carried out -/
def Holds (ops : Array Oper) (envs : Nat → Env) (listed : Array Bool) (t : Nat) (d : D) : Prop :=
  (∃ k, gslot ops k = some t ∧ listed.getD k false = true ∧ (envs ops.size).lookup t = some d) ∨ ((∀ k, gslot ops k = some t → listed.getD k false = false) ∧ (envs 0).lookup t = some d)

/-- the heap Hc is that of the text's order, block by block -/
structure Agree (n : Nat) (Hs : Nat → Heap) (ts : Nat → Tch) (listed : Array Bool) (Hc : Heap) : Prop where
  blk : ∀ b v, v ≤ n → (∀ k, k < n → Wt (ts k) b → (listed.getD k false = true ↔ k < v)) → Hc[b]? = (Hs v)[b]?
  len : ∀ v, v ≤ n → (∀ k, k < n → Lw (ts k) → (listed.getD k false = true ↔ k < v)) → Hc.length = (Hs v).length

structure Mid (nt : Nat) (ops : Array Oper) (envs : Nat → Env) (Hs : Nat → Heap) (ts : Nat → Tch) (E0 : Ctx) (listed : Array Bool) (a : Act) (w : World) : Prop where
  size : listed.size = ops.size
  closed : Closed ops listed
  tsize : a.tmps.size = nt
  defers : a.defers = []
  heap : ∃ ρ S Hc, Agree ops.size Hs ts listed Hc ∧ St ρ S w Hc ∧ E0.le (ctx ρ S w Hc) ∧
    ∀ t d, Holds ops envs listed t d → Rd (ctx ρ S w Hc) d (a.tmps.getD t undef)

structure Checked (ops : Array Oper) (ts : Nat → Tch) : Prop where
  back : ∀ j o, ops[j]? = some o → ∀ e ∈ directL o, e < j
  slot : ∀ k j ok oj, k < j → ops[k]? = some ok → ops[j]? = some oj → slotClash ops ok oj = true → k ∈ directL oj
  dst : ∀ k j t, gslot ops k = some t → gslot ops j = some t → k = j
  heap : ∀ k j, k < j → j < ops.size → clash (ts k) (ts j) = true → ∀ listed, Closed ops listed → (∀ o, ops[j]? = some o → ∀ e ∈ directL o, listed.getD e false = true) → listed.getD k false = true

theorem checked_of {tl : List Tch} (h : regOk ops tl = true) : Checked ops (fun k => tl.getD k .no) := by
  have h0 : ∀ j oj, ops[j]? = some oj → (directL oj).all (· < j) = true ∧ ∀ k ok, k < j → ops[k]? = some ok → (slotClash ops ok oj = true → k ∈ directL oj) ∧ sameDst ok oj = false ∧
      (clash (tl.getD k .no) (tl.getD j .no) = true → k ∈ (predsL ops.toList []).getD j []) := by
    intro j oj hj
    have hlt : j < ops.size := (Array.getElem?_eq_some_iff.1 hj).1
    have h1 := List.all_eq_true.1 h j (List.mem_range.2 hlt)
    simp only [hj, Bool.and_eq_true] at h1
    refine ⟨h1.1, fun k ok hk hok => ?_⟩
    have h2 := List.all_eq_true.1 h1.2 k (List.mem_range.2 hk)
    simp only [hok, Bool.and_eq_true, Bool.or_eq_true, Bool.not_eq_true'] at h2
    obtain ⟨⟨h3, h4⟩, h5⟩ := h2
    refine ⟨fun hc => ?_, h4, fun hc => ?_⟩
    · rcases h3 with h3 | h3
      · rw [hc] at h3; cases h3
      · simpa using h3
    · rcases h5 with h5 | h5
      · simpa using h5
      · rw [hc] at h5; cases h5
  have dlt : ∀ k j t, k < j → gslot ops k = some t → gslot ops j = some t → False := by
    intro k j t hkj hk hj
    unfold gslot at hk hj
    cases hok : ops[k]? with
    | none => simp [hok] at hk
    | some ok =>
      cases hoj : ops[j]? with
      | none => simp [hoj] at hj
      | some oj =>
        simp only [hok, Option.bind_some] at hk
        simp only [hoj, Option.bind_some] at hj
        have := ((h0 j oj hoj).2 k ok hkj hok).2.1
        simp [sameDst, hk, hj] at this
  refine ⟨fun j o hj e he => by have := List.all_eq_true.1 (h0 j o hj).1 e he; simpa using this, fun k j ok oj hkj hk hj hc => ((h0 j oj hj).2 k ok hkj hk).1 hc, fun k j t hk hj => ?_, fun k j hkj hlt hc listed hcl hd => ?_⟩
  · rcases Nat.lt_trichotomy k j with hl | hl | hl
    · exact (dlt k j t hl hk hj).elim
    · exact hl
    · exact (dlt j k t hl hj hk).elim
  · have hoj : ops[j]? = some ops[j] := Array.getElem?_eq_getElem hlt
    have hok : ops[k]? = some ops[k] := Array.getElem?_eq_getElem (by omega)
    have hm := ((h0 j _ hoj).2 k _ hkj hok).2.2 hc
    rw [List.getD_eq_getElem?_getD] at hm
    cases hp : (predsL ops.toList [])[j]? with
    | none => simp [hp] at hm
    | some p =>
      simp only [hp, Option.getD_some] at hm
      exact predsL_good ops.toList [] (fun i o hi => by simpa using hi) (fun i p hp => by simp at hp) j p hp k hm listed hcl hd

theorem getD_true_false {listed : Array Bool} {i : Nat} (hi : i < listed.size) : listed.getD i true = listed.getD i false := by
  simp [hi]

theorem draw_sound {Q : Exit → Act → World → Prop} {id : Nat} {envs : Nat → Env} {Hs : Nat → Heap} {ts : Nat → Tch} (hm : P.follows .mixedOrders = true) (hck : Checked ops ts)
    (hg : ∀ j s, gslot ops j = some s → s < nt) (hs : ∀ k o, ops[k]? = some o → StepAt P nt ops o (envs k) (Hs k) (ts k) (envs (k + 1)) (Hs (k + 1)))
    {ρ : Nat → Nat × Nat} {S : Nat → Prop} {w : World} {a : Act} (hi : Inv nt ρ S w (Hs 0) (envs 0) a)
    (hq : ∀ ρ' S' w' a', Inv nt ρ' S' w' (Hs ops.size) (envs ops.size) a' → (ctx ρ S w (Hs 0)).le (ctx ρ' S' w' (Hs ops.size)) → Q .normal a' w') : (Code.region id ops true).wp P Q a w := by
  -- the frame and the heap between two numbers
  have frame : ∀ (n i : Nat) (t : Nat), i + n ≤ ops.size → (∀ k, i ≤ k → k < i + n → gslot ops k ≠ some t) → (envs (i + n)).lookup t = (envs i).lookup t := by
    intro n
    induction n with
    | zero => intro i t _ _; rfl
    | succ n ih =>
      intro i t hle hno
      have hlt : i + n < ops.size := by omega
      have ho : ops[i + n]? = some ops[i + n] := Array.getElem?_eq_getElem hlt
      obtain ⟨_, hst⟩ := hs (i + n) _ ho
      have hne : ¬ (ops[i + n]).dst = some t := fun e => hno (i + n) (by omega) (by omega) (by simp [gslot, ho, e])
      have : (envs (i + n + 1)).lookup t = (envs (i + n)).lookup t := by
        rcases hst with ⟨_, _, _, _, _, _, _, _, henv⟩ | ⟨_, d, henv, _⟩
        · rw [henv, lookup_bindD, if_neg hne]
        · rw [henv, lookup_bindD, if_neg hne]
      rw [← Nat.add_assoc, this]
      exact ih i t (by omega) fun k h1 h2 => hno k h1 (by omega)
  have stepK : ∀ i, i < ops.size → (∀ b, ¬ Wt (ts i) b → (Hs (i + 1))[b]? = (Hs i)[b]?) ∧ (¬ Lw (ts i) → (Hs (i + 1)).length = (Hs i).length) := by
    intro i hlt
    have ho : ops[i]? = some ops[i] := Array.getElem?_eq_getElem hlt
    obtain ⟨_, hst⟩ := hs i _ ho
    rcases hst with ⟨_, _, _, _, _, _, _, h, _⟩ | ⟨_, d, _, h⟩
    · exact ⟨fun b _ => by rw [h], fun _ => by rw [h]⟩
    · exact ⟨h.keep, h.len⟩
  have bconst : ∀ (n i b : Nat), i + n ≤ ops.size → (∀ k, i ≤ k → k < i + n → ¬ Wt (ts k) b) → (Hs (i + n))[b]? = (Hs i)[b]? := by
    intro n
    induction n with
    | zero => intro i b _ _; rfl
    | succ n ih =>
      intro i b hle hno
      rw [← Nat.add_assoc, (stepK (i + n) (by omega)).1 b (hno (i + n) (by omega) (by omega))]
      exact ih i b (by omega) fun k h1 h2 => hno k h1 (by omega)
  have lconst : ∀ (n i : Nat), i + n ≤ ops.size → (∀ k, i ≤ k → k < i + n → ¬ Lw (ts k)) → (Hs (i + n)).length = (Hs i).length := by
    intro n
    induction n with
    | zero => intro i _ _; rfl
    | succ n ih =>
      intro i hle hno
      rw [← Nat.add_assoc, (stepK (i + n) (by omega)).2 (hno (i + n) (by omega) (by omega))]
      exact ih i (by omega) fun k h1 h2 => hno k h1 (by omega)
  have gs_lt : ∀ k t, gslot ops k = some t → k < ops.size := by
    intro k t h
    unfold gslot at h
    rcases Nat.lt_or_ge k ops.size with hlt | hge
    · exact hlt
    · rw [Array.getElem?_eq_none hge] at h; cases h
  -- an operation that is ready reads what it read in the text's order
  have reads : ∀ (listed : Array Bool) (j : Nat) (oj : Oper), Closed ops listed → ops[j]? = some oj → listed.getD j false = false → (∀ e ∈ directL oj, listed.getD e false = true) →
      ∀ t ∈ slotsOf ops oj, ∀ d, (envs j).lookup t = some d → Holds ops envs listed t d := by
    intro listed j oj hcl hoj hun hd t ht d hl
    have hjlt : j < ops.size := (Array.getElem?_eq_some_iff.1 hoj).1
    by_cases hw : ∃ k, gslot ops k = some t
    · obtain ⟨k, hk⟩ := hw
      have hklt := gs_lt k t hk
      have huniq : ∀ k', gslot ops k' = some t → k' = k := fun k' h => hck.dst k' k t h hk
      have hok : ops[k]? = some ops[k] := Array.getElem?_eq_getElem hklt
      have hdk : (ops[k]).dst = some t := by simpa [gslot, hok] using hk
      rcases Nat.lt_trichotomy k j with hkj | hkj | hkj
      · have hclash : slotClash ops ops[k] oj = true := by simp [slotClash, hdk, ht]
        have := hd k (hck.slot k j _ oj hkj hok hoj hclash)
        refine .inl ⟨k, hk, this, ?_⟩
        have e1 := frame (ops.size - (k + 1)) (k + 1) t (by omega) (fun k' h1 h2 e => by have := huniq k' e; omega)
        have e2 := frame (j - (k + 1)) (k + 1) t (by omega) (fun k' h1 h2 e => by have := huniq k' e; omega)
        rw [show k + 1 + (ops.size - (k + 1)) = ops.size by omega] at e1
        rw [show k + 1 + (j - (k + 1)) = j by omega] at e2
        rw [e1, ← e2]; exact hl
      · subst hkj
        refine .inr ⟨fun k' h => by rw [huniq k' h]; exact hun, ?_⟩
        have e := frame k 0 t (by omega) (fun k' h1 h2 e => by have := huniq k' e; omega)
        rw [Nat.zero_add] at e
        rw [← e]; exact hl
      · have hclash : slotClash ops oj ops[k] = true := by
          simp only [slotClash, Bool.or_eq_true]
          right
          simp [hdk, ht]
        have hdir := hck.slot j k oj _ hkj hoj hok hclash
        refine .inr ⟨fun k' h => ?_, ?_⟩
        · rw [huniq k' h]
          cases hlk : listed.getD k false with
          | false => rfl
          | true => have := hcl k _ hok hlk j hdir; rw [hun] at this; cases this
        · have e := frame j 0 t (by omega) (fun k' h1 h2 e => by have := huniq k' e; omega)
          rw [Nat.zero_add] at e
          rw [← e]; exact hl
    · refine .inr ⟨fun k h => absurd ⟨k, h⟩ hw, ?_⟩
      have e := frame j 0 t (by omega) (fun k' h1 h2 e => hw ⟨k', e⟩)
      rw [Nat.zero_add] at e
      rw [← e]; exact hl
  -- the induction over what is left
  have key : ∀ (fuel : Nat) (listed : Array Bool) (a' : Act) (w' : World), Mid nt ops envs Hs ts (ctx ρ S w (Hs 0)) listed a' w' →
      ((List.range ops.size).filter fun j => !listed.getD j true).length ≤ fuel → wpAny P .any ops Q fuel listed a' w' := by
    have final : ∀ (listed : Array Bool) (a' : Act) (w' : World), Mid nt ops envs Hs ts (ctx ρ S w (Hs 0)) listed a' w' → Region.ready .any ops listed = [] → Q .normal a' w' := by
      intro listed a' w' hmid hr
      have hall : ∀ j, j < ops.size → listed.getD j false = true := by
        intro j
        induction j using Nat.strongRecOn with
        | _ j ih =>
          intro hj
          cases hlj : listed.getD j false with
          | true => rfl
          | false =>
            exfalso
            have ho : ops[j]? = some ops[j] := Array.getElem?_eq_getElem hj
            have : j ∈ Region.ready .any ops listed := mem_ready.2 ⟨by rw [getD_true_false (by rw [hmid.size]; exact hj)]; exact hlj, _, ho, fun e he hb => by
              have hlt := hck.back j _ ho e.on (mem_directL.2 ⟨e, he, hb, rfl⟩)
              exact ih e.on hlt (by omega)⟩
            rw [hr] at this; cases this
      obtain ⟨ρ', S', Hc, hag, hSt, hle, hrd⟩ := hmid.heap
      have hHv : Hs ops.size = Hc := List.ext_getElem? fun b => (hag.blk b ops.size (Nat.le_refl _) fun k hk _ => ⟨fun _ => hk, fun _ => hall k hk⟩).symm
      refine hq ρ' S' w' a' ⟨by rw [hHv]; exact hSt, fun t d hl => ?_, hmid.tsize, hmid.defers⟩ (by rw [hHv]; exact hle)
      rw [hHv]
      refine hrd t d ?_
      by_cases hw : ∃ k, gslot ops k = some t
      · obtain ⟨k, hk⟩ := hw
        exact .inl ⟨k, hk, hall k (gs_lt k t hk), hl⟩
      · refine .inr ⟨fun k h => absurd ⟨k, h⟩ hw, ?_⟩
        have e := frame ops.size 0 t (by omega) (fun k' h1 h2 e => hw ⟨k', e⟩)
        rw [Nat.zero_add] at e
        rw [← e]; exact hl
    intro fuel
    induction fuel with
    | zero =>
      intro listed a' w' hmid hlen
      have hr : Region.ready .any ops listed = [] := by
        apply List.eq_nil_iff_forall_not_mem.2
        intro j hj
        obtain ⟨h1, o, ho, _⟩ := mem_ready.1 hj
        have hlt := (Array.getElem?_eq_some_iff.1 ho).1
        have : j ∈ (List.range ops.size).filter fun j => !listed.getD j true := List.mem_filter.2 ⟨List.mem_range.2 hlt, by rw [h1]; rfl⟩
        rw [List.eq_nil_of_length_eq_zero (Nat.le_zero.1 hlen)] at this
        cases this
      exact ⟨hr, final _ _ _ hmid hr⟩
    | succ fuel ih =>
      intro listed a' w' hmid hlen
      refine ⟨final _ _ _ hmid, fun j hj => ?_⟩
      obtain ⟨hun, oj, hoj, hpre⟩ := mem_ready.1 hj
      have hjlt : j < ops.size := (Array.getElem?_eq_some_iff.1 hoj).1
      have hun' : listed.getD j false = false := by rw [← getD_true_false (by rw [hmid.size]; exact hjlt)]; exact hun
      have hd : ∀ e ∈ directL oj, listed.getD e false = true := fun e he => by
        obtain ⟨ed, h1, h2, h3⟩ := mem_directL.1 he
        rw [← h3]; exact hpre ed h1 h2
      have hreads := reads listed j oj hmid.closed hoj hun' hd
      obtain ⟨hdst, hstep⟩ := hs j oj hoj
      obtain ⟨ρ', S', Hc, hag, hSt, hle, hrd⟩ := hmid.heap
      -- what is left behind this operation
      have hset : ∀ k, k ≠ j → (listed.setIfInBounds j true).getD k false = listed.getD k false := fun k hk => getD_set_ne false (fun e => hk e.symm)
      have hsetj : (listed.setIfInBounds j true).getD j false = true := by simp [hmid.size, hjlt]
      have hclosed' : Closed ops (listed.setIfInBounds j true) := by
        intro k o hk hl e he
        by_cases hkj : k = j
        · subst hkj
          have : o = oj := Option.some.inj (hk.symm.trans hoj)
          subst this
          by_cases hej : e = k
          · rw [hej]; exact hsetj
          · rw [hset e hej]; exact hd e he
        · rw [hset k hkj] at hl
          have := hmid.closed k o hk hl e he
          by_cases hej : e = j
          · rw [hej]; exact hsetj
          · rw [hset e hej]; exact this
      have hlen' : ((List.range ops.size).filter fun k => !(listed.setIfInBounds j true).getD k true).length ≤ fuel := by
        have hsub : ((List.range ops.size).filter fun k => !(listed.setIfInBounds j true).getD k true) = ((List.range ops.size).filter fun k => !listed.getD k true).filter fun k => k != j := by
          rw [List.filter_filter]
          apply List.filter_congr
          intro k hk
          have hklt := List.mem_range.1 hk
          by_cases hkj : k = j
          · subst hkj; simp [hmid.size, hklt]
          · rw [getD_set_ne true (fun e => hkj e.symm)]; simp [hkj]
        rw [hsub]
        have hmem : j ∈ (List.range ops.size).filter fun k => !listed.getD k true := List.mem_filter.2 ⟨List.mem_range.2 hjlt, by rw [hun]; rfl⟩
        have : (((List.range ops.size).filter fun k => !listed.getD k true).filter fun k => k != j).length < ((List.range ops.size).filter fun k => !listed.getD k true).length := by
          apply List.length_filter_lt_length_iff_exists.2
          exact ⟨j, hmem, by simp⟩
        omega
      have hgsj : ∀ t, gslot ops j = some t ↔ oj.dst = some t := fun t => by simp [gslot, hoj]
      -- the slots behind it
      have slots' : ∀ (E E' : Ctx) (v' : Value) (d0 : D), E.le E' → Rd E' d0 v' → (∀ s, (envs (j + 1)).lookup s = (bindD oj.dst d0 (envs j)).lookup s) → (∀ t d, Holds ops envs listed t d → Rd E d (a'.tmps.getD t undef)) →
          ∀ t d, Holds ops envs (listed.setIfInBounds j true) t d → Rd E' d ((a'.put oj.dst v').tmps.getD t undef) := by
        intro E E' v' d0 hEE hd0 henv hrd t d hh
        by_cases htj : oj.dst = some t
        · rw [htj, getD_put_same (by rw [hmid.tsize]; exact hdst _ htj)]
          rcases hh with ⟨k, hk, _, hl⟩ | ⟨hno, _⟩
          · have hkj : k = j := hck.dst k j t hk ((hgsj t).2 htj)
            have e1 := frame (ops.size - (j + 1)) (j + 1) t (by omega) (fun k' h1 h2 e => by have := hck.dst k' j t e ((hgsj t).2 htj); omega)
            rw [show j + 1 + (ops.size - (j + 1)) = ops.size by omega] at e1
            rw [e1, henv, lookup_bindD, if_pos htj] at hl
            injection hl with hl; subst hl
            exact hd0
          · have := hno j ((hgsj t).2 htj); rw [hsetj] at this; cases this
        · rw [getD_put htj]
          refine (hrd t d ?_).mono hEE _ _
          have hne : ∀ k, gslot ops k = some t → k ≠ j := fun k hk e => htj ((hgsj t).1 (e ▸ hk))
          rcases hh with ⟨k, hk, h1, h2⟩ | ⟨hno, h2⟩
          · exact .inl ⟨k, hk, by rw [← hset k (hne k hk)]; exact h1, h2⟩
          · exact .inr ⟨fun k hk => by rw [← hset k (hne k hk)]; exact hno k hk, h2⟩
      unfold wpOp
      simp only [hoj]
      have gslotIn : ∀ jg want s, oj.guard = some (jg, want) → gslot ops jg = some s → s ∈ slotsOf ops oj := fun jg want s h1 h2 => by
        simp [slotsOf, h1, h2]
      rcases hstep with ⟨jg, want, s, hgu, hsl, hlk, ht0, hH, henv⟩ | ⟨hwant, d, henv, hrun⟩
      · have hw : Region.wanted oj (yielded ops a'.tmps) = false := unwanted_of hgu hsl (by rw [hmid.tsize]; exact hg _ _ hsl) hlk (fun d hd => hrd s d (hreads s (gslotIn jg want s hgu hsl) d hd))
        simp only [hw, Bool.false_eq_true, if_false]
        refine ih _ _ _ ⟨by simp [hmid.size], hclosed', by rw [size_put]; exact hmid.tsize, by rw [defers_put]; exact hmid.defers, ρ', S', Hc, ?_, hSt, hle, slots' _ _ undef (.v undef) (Ctx.le.refl _) (by simp [Rd]) henv hrd⟩ hlen'
        refine ⟨fun b v hv hh => hag.blk b v hv fun k hk hwk => ?_, fun v hv hh => hag.len v hv fun k hk hwk => ?_⟩
        · have hkj : k ≠ j := fun e => by subst e; rw [ht0] at hwk; exact hwk.elim
          rw [← hset k hkj]; exact hh k hk hwk
        · have hkj : k ≠ j := fun e => by subst e; rw [ht0] at hwk; exact hwk.elim
          rw [← hset k hkj]; exact hh k hk hwk
      · have hw : Region.wanted oj (yielded ops a'.tmps) = true := by
          cases hgu : oj.guard with
          | none => simp [Region.wanted, hgu]
          | some p =>
            obtain ⟨jg, want⟩ := p
            obtain ⟨s, hsl, hlk⟩ := hwant jg want hgu
            have hvv := hrd s _ (hreads s (gslotIn jg want s hgu hsl) _ hlk)
            simp only [Rd] at hvv
            have hy := yielded_of hsl (by rw [hmid.tsize]; exact hg _ _ hsl) hvv
            simp [Region.wanted, hgu, hy]
        simp only [hw, if_true]
        refine .inl ?_
        have hops : ∀ t ∈ opSlots oj.op, ∀ d', (envs j).lookup t = some d' → Rd (ctx ρ' S' w' Hc) d' (a'.tmps.getD t undef) := fun t ht d' hl =>
          hrd t d' (hreads t (by simp [slotsOf, ht]) d' hl)
        -- those that clash with it lie in the text's order
        have early : ∀ k, k < j → clash (ts k) (ts j) = true → listed.getD k false = true := fun k hk hcl =>
          hck.heap k j hk hjlt hcl listed hmid.closed fun o ho e' he' => by
            have : o = oj := Option.some.inj (ho.symm.trans hoj)
            subst this; exact hd e' he'
        have late : ∀ k, k < ops.size → j < k → clash (ts j) (ts k) = true → listed.getD k false = true → False := fun k hk hjk hcl hlk => by
          have := hck.heap j k hjk hk hcl listed hmid.closed (fun o ho' e' he' => hmid.closed k o ho' hlk e' he')
          rw [hun'] at this; cases this
        obtain ⟨H1', hstp, hw1, hw2, hl1, hl2⟩ := hrun.run Hc (fun b hb => hag.blk b j (by omega) fun k hk hwk => by
            constructor
            · intro hlk
              rcases Nat.lt_trichotomy k j with h | h | h
              · exact h
              · subst h; rw [hun'] at hlk; cases hlk
              · exact (late k hk h (clash_rw hb hwk) hlk).elim
            · intro hlt; exact early k hlt (clash_wr hwk hb))
          (fun hl => hag.len j (by omega) fun k hk hwk => by
            constructor
            · intro hlk
              rcases Nat.lt_trichotomy k j with h | h | h
              · exact h
              · subst h; rw [hun'] at hlk; cases hlk
              · exact (late k hk h (clash_rl hl hwk) hlk).elim
            · intro hlt; exact early k hlt (clash_lr hwk hl))
        refine hstp ρ' S' w' a' hSt hops _ _ fun u ρ'' S'' w'' h1 h2 h3 => ?_
        refine ih _ _ _ ⟨by simp [hmid.size], hclosed', by rw [size_put]; exact hmid.tsize, by rw [defers_put]; exact hmid.defers, ρ'', S'', H1', ?_, h1, hle.trans h2, slots' _ _ u d h2 h3 henv hrd⟩ hlen'
        refine ⟨fun b v hv hh => ?_, fun v hv hh => ?_⟩
        · by_cases hwj : Wt (ts j) b
          · rw [hw1 b hwj]
            have hjv : j < v := (hh j hjlt hwj).1 hsetj
            have := bconst (v - (j + 1)) (j + 1) b (by omega) (fun k h1 h2 hwk => by
              have hlk := (hh k (by omega) hwk).2 (by omega)
              rw [hset k (by omega)] at hlk
              exact late k (by omega) (by omega) (clash_ww hwj hwk) hlk)
            rw [show j + 1 + (v - (j + 1)) = v by omega] at this
            exact this.symm
          · rw [hw2 b hwj]
            refine hag.blk b v hv fun k hk hwk => ?_
            have hkj : k ≠ j := fun e => by subst e; exact hwj hwk
            rw [← hset k hkj]; exact hh k hk hwk
        · by_cases hwj : Lw (ts j)
          · rw [hl1 hwj]
            have hjv : j < v := (hh j hjlt hwj).1 hsetj
            have := lconst (v - (j + 1)) (j + 1) (by omega) (fun k h1 h2 hwk => by
              have hlk := (hh k (by omega) hwk).2 (by omega)
              rw [hset k (by omega)] at hlk
              exact late k (by omega) (by omega) (clash_ll hwj hwk) hlk)
            rw [show j + 1 + (v - (j + 1)) = v by omega] at this
            exact this.symm
          · rw [hl2 hwj]
            refine hag.len v hv fun k hk hwk => ?_
            have hkj : k ≠ j := fun e => by subst e; exact hwj hwk
            rw [← hset k hkj]; exact hh k hk hwk
  refine wp_region_any hm (key ops.size _ _ _ ?_ ?_)
  · have hdrew : Grow w w.drew := Grow.drew w
    have hsub : ∀ k, S k → k < w.heap.size := fun k hk => (hi.st.sub k hk).1
    refine ⟨by simp, fun j o _ hl => ?_, hi.size, hi.defers, ρ, S, Hs 0, ⟨fun b v hv hh => ?_, fun v hv hh => ?_⟩, hi.st.grow hdrew, hdrew.le hsub, fun t d hh => ?_⟩
    · rw [getD_replicate_false] at hl; cases hl
    · have := bconst v 0 b (by omega) (fun k _ h2 hwk => by
        have := (hh k (by omega) hwk).2 (by omega)
        rw [getD_replicate_false] at this; cases this)
      rw [Nat.zero_add] at this; exact this.symm
    · have := lconst v 0 (by omega) (fun k _ h2 hwk => by
        have := (hh k (by omega) hwk).2 (by omega)
        rw [getD_replicate_false] at this; cases this)
      rw [Nat.zero_add] at this; exact this.symm
    · rcases hh with ⟨k, _, hl, _⟩ | ⟨_, hl⟩
      · rw [getD_replicate_false] at hl; cases hl
      · exact (hi.env t d hl).mono (hdrew.le hsub) _ _
  · exact Nat.le_trans (List.length_filter_le _ _) (by simp)
end
end Go.VD
