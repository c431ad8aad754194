import Derived.Test.YtahiigfpikohgaaZUo8
import Derived.Test.YtahiigfpikohgaaZUo7
section
namespace Go.VD
set_option linter.unusedVariables false
set_option linter.unusedSimpArgs false
section
variable {P : Program} {nt : Nat} {ops : Array Oper}
structure CheckedA (ops : Array Oper) (ts : Nat → Tch) (alt : Nat → Option Nat) : Prop where
  back : ∀ j o, ops[j]? = some o → ∀ e ∈ directL o, e < j
  slot : ∀ k j ok oj, k < j → ops[k]? = some ok → ops[j]? = some oj → slotClash ops ok oj = true → k ∈ directL oj
  dst : ∀ k j t, gslot ops k = some t → gslot ops j = some t → k = j
  heap : ∀ k j, k < j → j < ops.size → clash (ts k) (ts j) = true → alt j = some k ∨ ∀ listed, Closed ops listed → (∀ o, ops[j]? = some o → ∀ e ∈ directL o, listed.getD e false = true) → listed.getD k false = true
  alt : ∀ j k0, alt j = some k0 → k0 < j ∧ ∃ b, ts j = .rd b ∧ ∀ k, k0 < k → k < j → ¬ Wt (ts k) b
def noB : Tch → Bool
  | .no => true
  | _ => false
def rdB : Tch → Bool
  | .rd _ => true
  | _ => false
def regOkA (ops : Array Oper) (k0 j0 : Nat) (ts : List Tch) : Bool :=
  let pr := predsL ops.toList []
  (Nat.ble (k0 + 1) j0 && rdB (ts.getD j0 .no) && (List.range j0).all fun k => Nat.ble k k0 || noB (ts.getD k .no)) &&
  (List.range ops.size).all fun j => match ops[j]? with
    | none => true
    | some oj => (directL oj).all (· < j) && (List.range j).all fun k => match ops[k]? with
      | none => true
      | some ok => (!slotClash ops ok oj || (directL oj).contains k) && !sameDst ok oj && ((pr.getD j []).contains k || !clash (ts.getD k .no) (ts.getD j .no) || (Nat.beq k k0 && Nat.beq j j0))
theorem checkedA_of {k0 j0 : Nat} {tl : List Tch} (h : regOkA ops k0 j0 tl = true) : CheckedA ops (fun k => tl.getD k .no) (fun j => bif Nat.beq j j0 then some k0 else none) := by
  unfold regOkA at h
  simp only [Bool.and_eq_true] at h
  obtain ⟨⟨⟨a1, a2⟩, a3⟩, h⟩ := h
  have h0 : ∀ j oj, ops[j]? = some oj → (directL oj).all (· < j) = true ∧ ∀ k ok, k < j → ops[k]? = some ok → (slotClash ops ok oj = true → k ∈ directL oj) ∧ sameDst ok oj = false ∧
      (clash (tl.getD k .no) (tl.getD j .no) = true → k ∈ (predsL ops.toList []).getD j [] ∨ (k = k0 ∧ j = j0)) := by
    intro j oj hj
    have hlt : j < ops.size := (Array.getElem?_eq_some_iff.1 hj).1
    have h1 := List.all_eq_true.1 h j (List.mem_range.2 hlt)
    simp only [hj, Bool.and_eq_true] at h1
    refine ⟨h1.1, fun k ok hk hok => ?_⟩
    have h2 := List.all_eq_true.1 h1.2 k (List.mem_range.2 hk)
    simp only [hok, Bool.and_eq_true, Bool.or_eq_true, Bool.not_eq_true'] at h2
    obtain ⟨⟨h3, h4⟩, h5⟩ := h2
    refine ⟨fun hc => ?_, h4, fun hc => ?_⟩
    · rcases h3 with h3 | h3
      · rw [hc] at h3; cases h3
      · simpa using h3
    · rcases h5 with (h5 | h5) | h5
      · exact .inl (by simpa using h5)
      · rw [hc] at h5; cases h5
      · exact .inr ⟨Nat.eq_of_beq_eq_true h5.1, Nat.eq_of_beq_eq_true h5.2⟩
  have dlt : ∀ k j t, k < j → gslot ops k = some t → gslot ops j = some t → False := by
    intro k j t hkj hk hj
    unfold gslot at hk hj
    cases hok : ops[k]? with
    | none => simp [hok] at hk
    | some ok =>
      cases hoj : ops[j]? with
      | none => simp [hoj] at hj
      | some oj =>
        simp only [hok, Option.bind_some] at hk
        simp only [hoj, Option.bind_some] at hj
        have := ((h0 j oj hoj).2 k ok hkj hok).2.1
        simp [sameDst, hk, hj] at this
  refine ⟨fun j o hj e he => by have := List.all_eq_true.1 (h0 j o hj).1 e he; simpa using this, fun k j ok oj hkj hk hj hc => ((h0 j oj hj).2 k ok hkj hk).1 hc, fun k j t hk hj => ?_, fun k j hkj hlt hc => ?_, fun j k hal => ?_⟩
  · rcases Nat.lt_trichotomy k j with hl | hl | hl
    · exact (dlt k j t hl hk hj).elim
    · exact hl
    · exact (dlt j k t hl hj hk).elim
  · have hoj : ops[j]? = some ops[j] := Array.getElem?_eq_getElem hlt
    have hok : ops[k]? = some ops[k] := Array.getElem?_eq_getElem (by omega)
    rcases ((h0 j _ hoj).2 k _ hkj hok).2.2 hc with hm | ⟨rfl, rfl⟩
    · refine .inr fun listed hcl hd => ?_
      rw [List.getD_eq_getElem?_getD] at hm
      cases hp : (predsL ops.toList [])[j]? with
      | none => simp [hp] at hm
      | some p =>
        simp only [hp, Option.getD_some] at hm
        exact predsL_good ops.toList [] (fun i o hi => by simpa using hi) (fun i p hp => by simp at hp) j p hp k hm listed hcl hd
    · exact .inl (by simp)
  · cases hb : Nat.beq j j0 with
    | false => simp [hb] at hal
    | true =>
      simp only [hb, cond_true, Option.some.injEq] at hal
      subst hal
      have := Nat.eq_of_beq_eq_true hb
      subst this
      refine ⟨Nat.le_of_ble_eq_true a1, ?_⟩
      cases htj : tl.getD j .no with
      | rd b =>
        refine ⟨b, rfl, fun k hk1 hk2 hw => ?_⟩
        have := List.all_eq_true.1 a3 k (List.mem_range.2 hk2)
        simp only [Bool.or_eq_true] at this
        rcases this with h | h
        · have := Nat.le_of_ble_eq_true h; omega
        · cases ht : tl.getD k .no with
          | no => rw [ht] at hw; exact hw
          | _ => rw [ht] at h; cases h
      | _ => rw [htj] at a2; cases a2
theorem draw_soundA {alt : Nat → Option Nat} {Q : Exit → Act → World → Prop} {id : Nat} {envs : Nat → Env} {Hs : Nat → Heap} {ts : Nat → Tch} (hm : P.follows .mixedOrders = true) (hck : CheckedA ops ts alt)
    (hg : ∀ j s, gslot ops j = some s → s < nt) (hs : ∀ k o, ops[k]? = some o → StepAt P nt ops o (envs k) (Hs k) (ts k) (envs (k + 1)) (Hs (k + 1)))
    (ha : ∀ j k0 o, alt j = some k0 → ops[j]? = some o → o.guard = none ∧ ∃ s, o.dst = some s ∧ ∀ d, (envs (j + 1)).lookup s = some d → StepF P o (envs j) (ts j) d (Hs k0) (Hs k0))
    {ρ : Nat → Nat × Nat} {S : Nat → Prop} {w : World} {a : Act} (hi : Inv nt ρ S w (Hs 0) (envs 0) a)
    (hq : ∀ ρ' S' w' a', Inv nt ρ' S' w' (Hs ops.size) (envs ops.size) a' → (ctx ρ S w (Hs 0)).le (ctx ρ' S' w' (Hs ops.size)) → Q .normal a' w') : (Code.region id ops true).wp P Q a w := by
  have frame : ∀ (n i : Nat) (t : Nat), i + n ≤ ops.size → (∀ k, i ≤ k → k < i + n → gslot ops k ≠ some t) → (envs (i + n)).lookup t = (envs i).lookup t := by
    intro n
    induction n with
    | zero => intro i t _ _; rfl
    | succ n ih =>
      intro i t hle hno
      have hlt : i + n < ops.size := by omega
      have ho : ops[i + n]? = some ops[i + n] := Array.getElem?_eq_getElem hlt
      obtain ⟨_, hst⟩ := hs (i + n) _ ho
      have hne : ¬ (ops[i + n]).dst = some t := fun e => hno (i + n) (by omega) (by omega) (by simp [gslot, ho, e])
      have : (envs (i + n + 1)).lookup t = (envs (i + n)).lookup t := by
        rcases hst with ⟨_, _, _, _, _, _, _, _, henv⟩ | ⟨_, d, henv, _⟩
        · rw [henv, lookup_bindD, if_neg hne]
        · rw [henv, lookup_bindD, if_neg hne]
      rw [← Nat.add_assoc, this]
      exact ih i t (by omega) fun k h1 h2 => hno k h1 (by omega)
  have stepK : ∀ i, i < ops.size → (∀ b, ¬ Wt (ts i) b → (Hs (i + 1))[b]? = (Hs i)[b]?) ∧ (¬ Lw (ts i) → (Hs (i + 1)).length = (Hs i).length) := by
    intro i hlt
    have ho : ops[i]? = some ops[i] := Array.getElem?_eq_getElem hlt
    obtain ⟨_, hst⟩ := hs i _ ho
    rcases hst with ⟨_, _, _, _, _, _, _, h, _⟩ | ⟨_, d, _, h⟩
    · exact ⟨fun b _ => by rw [h], fun _ => by rw [h]⟩
    · exact ⟨h.keep, h.len⟩
  have bconst : ∀ (n i b : Nat), i + n ≤ ops.size → (∀ k, i ≤ k → k < i + n → ¬ Wt (ts k) b) → (Hs (i + n))[b]? = (Hs i)[b]? := by
    intro n
    induction n with
    | zero => intro i b _ _; rfl
    | succ n ih =>
      intro i b hle hno
      rw [← Nat.add_assoc, (stepK (i + n) (by omega)).1 b (hno (i + n) (by omega) (by omega))]
      exact ih i b (by omega) fun k h1 h2 => hno k h1 (by omega)
  have lconst : ∀ (n i : Nat), i + n ≤ ops.size → (∀ k, i ≤ k → k < i + n → ¬ Lw (ts k)) → (Hs (i + n)).length = (Hs i).length := by
    intro n
    induction n with
    | zero => intro i _ _; rfl
    | succ n ih =>
      intro i hle hno
      rw [← Nat.add_assoc, (stepK (i + n) (by omega)).2 (hno (i + n) (by omega) (by omega))]
      exact ih i (by omega) fun k h1 h2 => hno k h1 (by omega)
  have gs_lt : ∀ k t, gslot ops k = some t → k < ops.size := by
    intro k t h
    unfold gslot at h
    rcases Nat.lt_or_ge k ops.size with hlt | hge
    · exact hlt
    · rw [Array.getElem?_eq_none hge] at h; cases h
  have reads : ∀ (listed : Array Bool) (j : Nat) (oj : Oper), Closed ops listed → ops[j]? = some oj → listed.getD j false = false → (∀ e ∈ directL oj, listed.getD e false = true) →
      ∀ t ∈ slotsOf ops oj, ∀ d, (envs j).lookup t = some d → Holds ops envs listed t d := by
    intro listed j oj hcl hoj hun hd t ht d hl
    have hjlt : j < ops.size := (Array.getElem?_eq_some_iff.1 hoj).1
    by_cases hw : ∃ k, gslot ops k = some t
    · obtain ⟨k, hk⟩ := hw
      have hklt := gs_lt k t hk
      have huniq : ∀ k', gslot ops k' = some t → k' = k := fun k' h => hck.dst k' k t h hk
      have hok : ops[k]? = some ops[k] := Array.getElem?_eq_getElem hklt
      have hdk : (ops[k]).dst = some t := by simpa [gslot, hok] using hk
      rcases Nat.lt_trichotomy k j with hkj | hkj | hkj
      · have hclash : slotClash ops ops[k] oj = true := by simp [slotClash, hdk, ht]
        have := hd k (hck.slot k j _ oj hkj hok hoj hclash)
        refine .inl ⟨k, hk, this, ?_⟩
        have e1 := frame (ops.size - (k + 1)) (k + 1) t (by omega) (fun k' h1 h2 e => by have := huniq k' e; omega)
        have e2 := frame (j - (k + 1)) (k + 1) t (by omega) (fun k' h1 h2 e => by have := huniq k' e; omega)
        rw [show k + 1 + (ops.size - (k + 1)) = ops.size by omega] at e1
        rw [show k + 1 + (j - (k + 1)) = j by omega] at e2
        rw [e1, ← e2]; exact hl
      · subst hkj
        refine .inr ⟨fun k' h => by rw [huniq k' h]; exact hun, ?_⟩
        have e := frame k 0 t (by omega) (fun k' h1 h2 e => by have := huniq k' e; omega)
        rw [Nat.zero_add] at e
        rw [← e]; exact hl
      · have hclash : slotClash ops oj ops[k] = true := by
          simp only [slotClash, Bool.or_eq_true]
          right
          simp [hdk, ht]
        have hdir := hck.slot j k oj _ hkj hoj hok hclash
        refine .inr ⟨fun k' h => ?_, ?_⟩
        · rw [huniq k' h]
          cases hlk : listed.getD k false with
          | false => rfl
          | true => have := hcl k _ hok hlk j hdir; rw [hun] at this; cases this
        · have e := frame j 0 t (by omega) (fun k' h1 h2 e => by have := huniq k' e; omega)
          rw [Nat.zero_add] at e
          rw [← e]; exact hl
    · refine .inr ⟨fun k h => absurd ⟨k, h⟩ hw, ?_⟩
      have e := frame j 0 t (by omega) (fun k' h1 h2 e => hw ⟨k', e⟩)
      rw [Nat.zero_add] at e
      rw [← e]; exact hl
  have key : ∀ (fuel : Nat) (listed : Array Bool) (a' : Act) (w' : World), Mid nt ops envs Hs ts (ctx ρ S w (Hs 0)) listed a' w' →
      ((List.range ops.size).filter fun j => !listed.getD j true).length ≤ fuel → wpAny P .any ops Q fuel listed a' w' := by
    have final : ∀ (listed : Array Bool) (a' : Act) (w' : World), Mid nt ops envs Hs ts (ctx ρ S w (Hs 0)) listed a' w' → Region.ready .any ops listed = [] → Q .normal a' w' := by
      intro listed a' w' hmid hr
      have hall : ∀ j, j < ops.size → listed.getD j false = true := by
        intro j
        induction j using Nat.strongRecOn with
        | _ j ih =>
          intro hj
          cases hlj : listed.getD j false with
          | true => rfl
          | false =>
            exfalso
            have ho : ops[j]? = some ops[j] := Array.getElem?_eq_getElem hj
            have : j ∈ Region.ready .any ops listed := mem_ready.2 ⟨by rw [getD_true_false (by rw [hmid.size]; exact hj)]; exact hlj, _, ho, fun e he hb => by
              have hlt := hck.back j _ ho e.on (mem_directL.2 ⟨e, he, hb, rfl⟩)
              exact ih e.on hlt (by omega)⟩
            rw [hr] at this; cases this
      obtain ⟨ρ', S', Hc, hag, hSt, hle, hrd⟩ := hmid.heap
      have hHv : Hs ops.size = Hc := List.ext_getElem? fun b => (hag.blk b ops.size (Nat.le_refl _) fun k hk _ => ⟨fun _ => hk, fun _ => hall k hk⟩).symm
      refine hq ρ' S' w' a' ⟨by rw [hHv]; exact hSt, fun t d hl => ?_, hmid.tsize, hmid.defers⟩ (by rw [hHv]; exact hle)
      rw [hHv]
      refine hrd t d ?_
      by_cases hw : ∃ k, gslot ops k = some t
      · obtain ⟨k, hk⟩ := hw
        exact .inl ⟨k, hk, hall k (gs_lt k t hk), hl⟩
      · refine .inr ⟨fun k h => absurd ⟨k, h⟩ hw, ?_⟩
        have e := frame ops.size 0 t (by omega) (fun k' h1 h2 e => hw ⟨k', e⟩)
        rw [Nat.zero_add] at e
        rw [← e]; exact hl
    intro fuel
    induction fuel with
    | zero =>
      intro listed a' w' hmid hlen
      have hr : Region.ready .any ops listed = [] := by
        apply List.eq_nil_iff_forall_not_mem.2
        intro j hj
        obtain ⟨h1, o, ho, _⟩ := mem_ready.1 hj
        have hlt := (Array.getElem?_eq_some_iff.1 ho).1
        have : j ∈ (List.range ops.size).filter fun j => !listed.getD j true := List.mem_filter.2 ⟨List.mem_range.2 hlt, by rw [h1]; rfl⟩
        rw [List.eq_nil_of_length_eq_zero (Nat.le_zero.1 hlen)] at this
        cases this
      exact ⟨hr, final _ _ _ hmid hr⟩
    | succ fuel ih =>
      intro listed a' w' hmid hlen
      refine ⟨final _ _ _ hmid, fun j hj => ?_⟩
      obtain ⟨hun, oj, hoj, hpre⟩ := mem_ready.1 hj
      have hjlt : j < ops.size := (Array.getElem?_eq_some_iff.1 hoj).1
      have hun' : listed.getD j false = false := by rw [← getD_true_false (by rw [hmid.size]; exact hjlt)]; exact hun
      have hd : ∀ e ∈ directL oj, listed.getD e false = true := fun e he => by
        obtain ⟨ed, h1, h2, h3⟩ := mem_directL.1 he
        rw [← h3]; exact hpre ed h1 h2
      have hreads := reads listed j oj hmid.closed hoj hun' hd
      obtain ⟨hdst, hstep⟩ := hs j oj hoj
      obtain ⟨ρ', S', Hc, hag, hSt, hle, hrd⟩ := hmid.heap
      have hset : ∀ k, k ≠ j → (listed.setIfInBounds j true).getD k false = listed.getD k false := fun k hk => getD_set_ne false (fun e => hk e.symm)
      have hsetj : (listed.setIfInBounds j true).getD j false = true := by simp [hmid.size, hjlt]
      have hclosed' : Closed ops (listed.setIfInBounds j true) := by
        intro k o hk hl e he
        by_cases hkj : k = j
        · subst hkj
          have : o = oj := Option.some.inj (hk.symm.trans hoj)
          subst this
          by_cases hej : e = k
          · rw [hej]; exact hsetj
          · rw [hset e hej]; exact hd e he
        · rw [hset k hkj] at hl
          have := hmid.closed k o hk hl e he
          by_cases hej : e = j
          · rw [hej]; exact hsetj
          · rw [hset e hej]; exact this
      have hlen' : ((List.range ops.size).filter fun k => !(listed.setIfInBounds j true).getD k true).length ≤ fuel := by
        have hsub : ((List.range ops.size).filter fun k => !(listed.setIfInBounds j true).getD k true) = ((List.range ops.size).filter fun k => !listed.getD k true).filter fun k => k != j := by
          rw [List.filter_filter]
          apply List.filter_congr
          intro k hk
          have hklt := List.mem_range.1 hk
          by_cases hkj : k = j
          · subst hkj; simp [hmid.size, hklt]
          · rw [getD_set_ne true (fun e => hkj e.symm)]; simp [hkj]
        rw [hsub]
        have hmem : j ∈ (List.range ops.size).filter fun k => !listed.getD k true := List.mem_filter.2 ⟨List.mem_range.2 hjlt, by rw [hun]; rfl⟩
        have : (((List.range ops.size).filter fun k => !listed.getD k true).filter fun k => k != j).length < ((List.range ops.size).filter fun k => !listed.getD k true).length := by
          apply List.length_filter_lt_length_iff_exists.2
          exact ⟨j, hmem, by simp⟩
        omega
      have hgsj : ∀ t, gslot ops j = some t ↔ oj.dst = some t := fun t => by simp [gslot, hoj]
      have slots' : ∀ (E E' : Ctx) (v' : Value) (d0 : D), E.le E' → Rd E' d0 v' → (∀ s, (envs (j + 1)).lookup s = (bindD oj.dst d0 (envs j)).lookup s) → (∀ t d, Holds ops envs listed t d → Rd E d (a'.tmps.getD t undef)) →
          ∀ t d, Holds ops envs (listed.setIfInBounds j true) t d → Rd E' d ((a'.put oj.dst v').tmps.getD t undef) := by
        intro E E' v' d0 hEE hd0 henv hrd t d hh
        by_cases htj : oj.dst = some t
        · rw [htj, getD_put_same (by rw [hmid.tsize]; exact hdst _ htj)]
          rcases hh with ⟨k, hk, _, hl⟩ | ⟨hno, _⟩
          · have hkj : k = j := hck.dst k j t hk ((hgsj t).2 htj)
            have e1 := frame (ops.size - (j + 1)) (j + 1) t (by omega) (fun k' h1 h2 e => by have := hck.dst k' j t e ((hgsj t).2 htj); omega)
            rw [show j + 1 + (ops.size - (j + 1)) = ops.size by omega] at e1
            rw [e1, henv, lookup_bindD, if_pos htj] at hl
            injection hl with hl; subst hl
            exact hd0
          · have := hno j ((hgsj t).2 htj); rw [hsetj] at this; cases this
        · rw [getD_put htj]
          refine (hrd t d ?_).mono hEE _ _
          have hne : ∀ k, gslot ops k = some t → k ≠ j := fun k hk e => htj ((hgsj t).1 (e ▸ hk))
          rcases hh with ⟨k, hk, h1, h2⟩ | ⟨hno, h2⟩
          · exact .inl ⟨k, hk, by rw [← hset k (hne k hk)]; exact h1, h2⟩
          · exact .inr ⟨fun k hk => by rw [← hset k (hne k hk)]; exact hno k hk, h2⟩
      unfold wpOp
      simp only [hoj]
      have gslotIn : ∀ jg want s, oj.guard = some (jg, want) → gslot ops jg = some s → s ∈ slotsOf ops oj := fun jg want s h1 h2 => by
        simp [slotsOf, h1, h2]
      rcases hstep with ⟨jg, want, s, hgu, hsl, hlk, ht0, hH, henv⟩ | ⟨hwant, d, henv, hrun⟩
      · have hw : Region.wanted oj (yielded ops a'.tmps) = false := unwanted_of hgu hsl (by rw [hmid.tsize]; exact hg _ _ hsl) hlk (fun d hd => hrd s d (hreads s (gslotIn jg want s hgu hsl) d hd))
        simp only [hw, Bool.false_eq_true, if_false]
        refine ih _ _ _ ⟨by simp [hmid.size], hclosed', by rw [size_put]; exact hmid.tsize, by rw [defers_put]; exact hmid.defers, ρ', S', Hc, ?_, hSt, hle, slots' _ _ undef (.v undef) (Ctx.le.refl _) (by simp [Rd]) henv hrd⟩ hlen'
        refine ⟨fun b v hv hh => hag.blk b v hv fun k hk hwk => ?_, fun v hv hh => hag.len v hv fun k hk hwk => ?_⟩
        · have hkj : k ≠ j := fun e => by subst e; rw [ht0] at hwk; exact hwk.elim
          rw [← hset k hkj]; exact hh k hk hwk
        · have hkj : k ≠ j := fun e => by subst e; rw [ht0] at hwk; exact hwk.elim
          rw [← hset k hkj]; exact hh k hk hwk
      · have hw : Region.wanted oj (yielded ops a'.tmps) = true := by
          cases hgu : oj.guard with
          | none => simp [Region.wanted, hgu]
          | some p =>
            obtain ⟨jg, want⟩ := p
            obtain ⟨s, hsl, hlk⟩ := hwant jg want hgu
            have hvv := hrd s _ (hreads s (gslotIn jg want s hgu hsl) _ hlk)
            simp only [Rd] at hvv
            have hy := yielded_of hsl (by rw [hmid.tsize]; exact hg _ _ hsl) hvv
            simp [Region.wanted, hgu, hy]
        simp only [hw, if_true]
        refine .inl ?_
        have hops : ∀ t ∈ opSlots oj.op, ∀ d', (envs j).lookup t = some d' → Rd (ctx ρ' S' w' Hc) d' (a'.tmps.getD t undef) := fun t ht d' hl =>
          hrd t d' (hreads t (by simp [slotsOf, ht]) d' hl)
        have late : ∀ k, k < ops.size → j < k → clash (ts j) (ts k) = true → ((∃ b, Wt (ts k) b) ∨ Lw (ts k)) → listed.getD k false = true → False := fun k hk hjk hcl hwr hlk => by
          rcases hck.heap j k hjk hk hcl with hal | hal
          · obtain ⟨_, b, htb, _⟩ := hck.alt k j hal
            rw [htb] at hwr
            rcases hwr with ⟨_, h⟩ | h <;> exact h.elim
          · have := hal listed hmid.closed (fun o ho' e' he' => hmid.closed k o ho' hlk e' he')
            rw [hun'] at this; cases this
        have run : ∃ H1' : Heap, Step P oj (envs j) Hc d H1' ∧ (∀ b, Wt (ts j) b → H1'[b]? = (Hs (j + 1))[b]?) ∧ (∀ b, ¬ Wt (ts j) b → H1'[b]? = Hc[b]?) ∧ (Lw (ts j) → H1'.length = (Hs (j + 1)).length) ∧ (¬ Lw (ts j) → H1'.length = Hc.length) := by
          have usual : (∀ k, k < j → clash (ts k) (ts j) = true → listed.getD k false = true) → ∃ H1' : Heap, Step P oj (envs j) Hc d H1' ∧ (∀ b, Wt (ts j) b → H1'[b]? = (Hs (j + 1))[b]?) ∧ (∀ b, ¬ Wt (ts j) b → H1'[b]? = Hc[b]?) ∧ (Lw (ts j) → H1'.length = (Hs (j + 1)).length) ∧ (¬ Lw (ts j) → H1'.length = Hc.length) := fun early =>
            hrun.run Hc (fun b hb => hag.blk b j (by omega) fun k hk hwk => by
              constructor
              · intro hlk
                rcases Nat.lt_trichotomy k j with h | h | h
                · exact h
                · subst h; rw [hun'] at hlk; cases hlk
                · exact (late k hk h (clash_rw hb hwk) (.inl ⟨b, hwk⟩) hlk).elim
              · intro hlt; exact early k hlt (clash_wr hwk hb))
            (fun hl => hag.len j (by omega) fun k hk hwk => by
              constructor
              · intro hlk
                rcases Nat.lt_trichotomy k j with h | h | h
                · exact h
                · subst h; rw [hun'] at hlk; cases hlk
                · exact (late k hk h (clash_rl hl hwk) (.inr hwk) hlk).elim
              · intro hlt; exact early k hlt (clash_lr hwk hl))
          have direct : ∀ k, k < j → alt j ≠ some k → clash (ts k) (ts j) = true → listed.getD k false = true := fun k hk hne hcl => by
            rcases hck.heap k j hk hjlt hcl with hal | hal
            · exact absurd hal hne
            · exact hal listed hmid.closed fun o ho e' he' => by
                have : o = oj := Option.some.inj (ho.symm.trans hoj)
                subst this; exact hd e' he'
          cases halt : alt j with
          | none => exact usual fun k hk hcl => direct k hk (by rw [halt]; simp) hcl
          | some k0 =>
            obtain ⟨hk0, b0, htb, hbetween⟩ := hck.alt j k0 halt
            cases hl0 : listed.getD k0 false with
            | true =>
              exact usual fun k hk hcl => by
                by_cases hkk : k = k0
                · subst hkk; exact hl0
                · exact direct k hk (by rw [halt]; intro e; injection e with e; exact hkk e.symm) hcl
            | false =>
              obtain ⟨_, s, hds, hst2⟩ := ha j k0 oj halt hoj
              have hl1 : (envs (j + 1)).lookup s = some d := by rw [henv, lookup_bindD, if_pos hds]
              have hrun2 := hst2 d hl1
              obtain ⟨H1', q1, q2, q3, q4, q5⟩ := hrun2.run Hc (fun b hb => hag.blk b k0 (by omega) fun k hk hwk => by
                have hbb : b = b0 := by rw [htb] at hb; exact (show b0 = b from hb).symm
                subst hbb
                constructor
                · intro hlk
                  rcases Nat.lt_trichotomy k k0 with h | h | h
                  · exact h
                  · subst h; rw [hl0] at hlk; cases hlk
                  · rcases Nat.lt_trichotomy k j with h' | h' | h'
                    · exact absurd hwk (hbetween k h h')
                    · subst h'; rw [hun'] at hlk; cases hlk
                    · exact (late k hk h' (clash_rw hb hwk) (.inl ⟨_, hwk⟩) hlk).elim
                · intro hlt
                  exact direct k (by omega) (by rw [halt]; intro e; injection e with e; omega) (clash_wr hwk hb))
                (fun hl => by rw [htb] at hl; exact hl.elim)
              refine ⟨H1', q1, fun b hb => ?_, q3, fun hl => ?_, q5⟩
              · rw [htb] at hb; exact hb.elim
              · rw [htb] at hl; exact hl.elim
        obtain ⟨H1', hstp, hw1, hw2, hl1, hl2⟩ := run
        refine hstp ρ' S' w' a' hSt hops _ _ fun u ρ'' S'' w'' h1 h2 h3 => ?_
        refine ih _ _ _ ⟨by simp [hmid.size], hclosed', by rw [size_put]; exact hmid.tsize, by rw [defers_put]; exact hmid.defers, ρ'', S'', H1', ?_, h1, hle.trans h2, slots' _ _ u d h2 h3 henv hrd⟩ hlen'
        refine ⟨fun b v hv hh => ?_, fun v hv hh => ?_⟩
        · by_cases hwj : Wt (ts j) b
          · rw [hw1 b hwj]
            have hjv : j < v := (hh j hjlt hwj).1 hsetj
            have := bconst (v - (j + 1)) (j + 1) b (by omega) (fun k h1 h2 hwk => by
              have hlk := (hh k (by omega) hwk).2 (by omega)
              rw [hset k (by omega)] at hlk
              exact late k (by omega) (by omega) (clash_ww hwj hwk) (.inl ⟨_, hwk⟩) hlk)
            rw [show j + 1 + (v - (j + 1)) = v by omega] at this
            exact this.symm
          · rw [hw2 b hwj]
            refine hag.blk b v hv fun k hk hwk => ?_
            have hkj : k ≠ j := fun e => by subst e; exact hwj hwk
            rw [← hset k hkj]; exact hh k hk hwk
        · by_cases hwj : Lw (ts j)
          · rw [hl1 hwj]
            have hjv : j < v := (hh j hjlt hwj).1 hsetj
            have := lconst (v - (j + 1)) (j + 1) (by omega) (fun k h1 h2 hwk => by
              have hlk := (hh k (by omega) hwk).2 (by omega)
              rw [hset k (by omega)] at hlk
              exact late k (by omega) (by omega) (clash_ll hwj hwk) (.inr hwk) hlk)
            rw [show j + 1 + (v - (j + 1)) = v by omega] at this
            exact this.symm
          · rw [hl2 hwj]
            refine hag.len v hv fun k hk hwk => ?_
            have hkj : k ≠ j := fun e => by subst e; exact hwj hwk
            rw [← hset k hkj]; exact hh k hk hwk
  refine wp_region_any hm (key ops.size _ _ _ ?_ ?_)
  · have hdrew : Grow w w.drew := Grow.drew w
    have hsub : ∀ k, S k → k < w.heap.size := fun k hk => (hi.st.sub k hk).1
    refine ⟨by simp, fun j o _ hl => ?_, hi.size, hi.defers, ρ, S, Hs 0, ⟨fun b v hv hh => ?_, fun v hv hh => ?_⟩, hi.st.grow hdrew, hdrew.le hsub, fun t d hh => ?_⟩
    · rw [getD_replicate_false] at hl; cases hl
    · have := bconst v 0 b (by omega) (fun k _ h2 hwk => by
        have := (hh k (by omega) hwk).2 (by omega)
        rw [getD_replicate_false] at this; cases this)
      rw [Nat.zero_add] at this; exact this.symm
    · have := lconst v 0 (by omega) (fun k _ h2 hwk => by
        have := (hh k (by omega) hwk).2 (by omega)
        rw [getD_replicate_false] at this; cases this)
      rw [Nat.zero_add] at this; exact this.symm
    · rcases hh with ⟨k, _, hl, _⟩ | ⟨_, hl⟩
      · rw [getD_replicate_false] at hl; cases hl
      · exact (hi.env t d hl).mono (hdrew.le hsub) _ _
  · exact Nat.le_trans (List.length_filter_le _ _) (by simp)
end
def xOpsA (P : Program) (call : CallO) (T : Tbl) (k0 j0 : Nat) : List Oper → Nat → Env → Heap → Heap → List Tch → (Env → Heap → List Tch → Prop) → Prop
  | [], _, env, H, _, ts, K => K env H ts
  | o :: rest, i, env, H, Hk, ts, K =>
    match o.guard with
    | some _ => False
    | none => bif Nat.beq i j0 then (match o.dst, opP T env o.op, opH T env H o.op, opH T env Hk o.op with
        | some _, none, some out, some out' => (out.c ∧ out'.c) ∧ (out'.d = out.d ∧ out.touch = out'.touch) ∧ (out.H = H ∧ out'.H = Hk) ∧ xOpsA P call T k0 j0 rest (i + 1) (bindD o.dst out.d env) H Hk (out.touch :: ts) K
        | _, _, _, _ => False)
      else xOp P call T o env H fun d H' t => xOpsA P call T k0 j0 rest (i + 1) (bindD o.dst d env) H' (bif Nat.beq i k0 then H else Hk) (t :: ts) K
section
variable {P : Program} {T : Tbl} (hT : TblOk P T) {nt N : Nat} {ops : Array Oper} {call : CallO} {lp : Nat → Option LoopO} {al : Nat → Option (Nat × Nat)}
include hT
theorem stepF_of_opH {o : Oper} {env : Env} {H : Heap} {out : HOut} (ho : opH T env H o.op = some out) (hc : out.c) : StepF P o env out.touch out.d H out.H := by
  rcases opH_local ho with ⟨b, h1, h2, h3⟩ | ⟨b, y, h1, h2, h3⟩ | ⟨L, h1, h2, h3⟩ | h1 | ⟨h1, h2, h3⟩
  · rw [h1, h2]; exact .of_rd fun H1 e => step_of_opH hT (h3 H1 e) hc
  · rw [h1, h2]; exact .of_wr fun H1 e => step_of_opH hT (h3 H1 e) hc
  · rw [h1, h2]; exact .of_mk fun H1 e => step_of_opH hT (h3 H1 e) hc
  · rw [h1]; exact .of_al (step_of_opH hT ho hc)
  · rw [h1, h2]; exact .of_no fun H1 => step_of_opH hT (h3 H1) hc
theorem xOpsA_trace {k0 j0 : Nat} (hkj : k0 < j0) (hc : CallOK P call) : ∀ (l : List Oper) (i : Nat) (env : Env) (H Hk : Heap) (ts : List Tch) (K : Env → Heap → List Tch → Prop), (∀ o ∈ l, ∀ s, o.dst = some s → s < nt) → xOpsA P call T k0 j0 l i env H Hk ts K →
    ∃ (tl : List Tch) (envs : Nat → Env) (Hs : Nat → Heap), envs 0 = env ∧ Hs 0 = H ∧ (∀ (k : Nat) (o : Oper), l[k]? = some o → StepAt P nt ops o (envs k) (Hs k) (tl.getD k .no) (envs (k + 1)) (Hs (k + 1))) ∧
      (∀ (j : Nat) (o : Oper), i + j = j0 → l[j]? = some o → o.guard = none ∧ ∃ s, o.dst = some s ∧ ∀ d, (envs (j + 1)).lookup s = some d → StepF P o (envs j) (tl.getD j .no) d (if k0 < i then Hk else Hs (k0 - i)) (if k0 < i then Hk else Hs (k0 - i))) ∧
      K (envs l.length) (Hs l.length) (tl.reverse ++ ts)
  | [], i, env, H, Hk, ts, K, hl, h => ⟨[], fun _ => env, fun _ => H, rfl, rfl, fun k o hk => by simp at hk, fun j o _ hj => by simp at hj, by simpa [xOpsA] using h⟩
  | o :: rest, i, env, H, Hk, ts, K, hl, h => by
    have hdst := hl o (by simp)
    have hl' : ∀ o ∈ rest, ∀ s, o.dst = some s → s < nt := fun o ho => hl o (by simp [ho])
    have cons : ∀ (env1 : Env) (H1 Hk1 : Heap) (t : Tch), StepAt P nt ops o env H t env1 H1 → (k0 < i → Hk1 = Hk) → (i = k0 → Hk1 = H) → (i = j0 → o.guard = none ∧ ∃ s, o.dst = some s ∧ ∀ d, env1.lookup s = some d → StepF P o env t d Hk Hk) → xOpsA P call T k0 j0 rest (i + 1) env1 H1 Hk1 (t :: ts) K →
        ∃ (tl : List Tch) (envs : Nat → Env) (Hs : Nat → Heap), envs 0 = env ∧ Hs 0 = H ∧ (∀ (k : Nat) (o' : Oper), (o :: rest)[k]? = some o' → StepAt P nt ops o' (envs k) (Hs k) (tl.getD k .no) (envs (k + 1)) (Hs (k + 1))) ∧
          (∀ (j : Nat) (o' : Oper), i + j = j0 → (o :: rest)[j]? = some o' → o'.guard = none ∧ ∃ s, o'.dst = some s ∧ ∀ d, (envs (j + 1)).lookup s = some d → StepF P o' (envs j) (tl.getD j .no) d (if k0 < i then Hk else Hs (k0 - i)) (if k0 < i then Hk else Hs (k0 - i))) ∧
          K (envs (o :: rest).length) (Hs (o :: rest).length) (tl.reverse ++ ts) := by
      intro env1 H1 Hk1 t hst hkA hkB hj0 hv
      obtain ⟨tl, envs, Hs, e1, e2, h3, h5, h4⟩ := xOpsA_trace hkj hc rest (i + 1) env1 H1 Hk1 (t :: ts) K hl' hv
      refine ⟨t :: tl, fun k => match k with | 0 => env | k + 1 => envs k, fun k => match k with | 0 => H | k + 1 => Hs k, rfl, rfl, fun k o' hk => ?_, fun j o' hij hj => ?_, by simpa using h4⟩
      · cases k with
        | zero =>
          simp only [List.getElem?_cons_zero, Option.some.injEq] at hk
          subst hk
          simp only [List.getD_cons_zero]
          rw [e1, e2]; exact hst
        | succ k => exact h3 k o' (by simpa using hk)
      · cases j with
        | zero =>
          simp only [List.getElem?_cons_zero, Option.some.injEq] at hj
          subst hj
          obtain ⟨g1, s, g2, g3⟩ := hj0 (by omega)
          refine ⟨g1, s, g2, fun d hd => ?_⟩
          simp only [List.getD_cons_zero]
          rw [if_pos (by omega)]
          exact g3 d (by rw [← e1]; exact hd)
        | succ j =>
          obtain ⟨g1, s, g2, g3⟩ := h5 j o' (by omega) (by simpa using hj)
          refine ⟨g1, s, g2, fun d hd => ?_⟩
          have := g3 d hd
          simp only [List.getD_cons_succ]
          by_cases hki : k0 < i
          · rw [if_pos (show k0 < i + 1 by omega)] at this
            rw [hkA hki] at this
            rw [if_pos hki]; exact this
          · rw [if_neg hki]
            by_cases hke : i = k0
            · rw [if_pos (by omega), hkB hke] at this
              have e : k0 - i = 0 := by omega
              rw [e]; exact this
            · rw [if_neg (by omega)] at this
              obtain ⟨m, hm⟩ : ∃ m, k0 - i = m + 1 := ⟨k0 - i - 1, by omega⟩
              rw [show k0 - (i + 1) = m by omega] at this
              rw [hm]; exact this
    unfold xOpsA at h
    split at h
    · exact h.elim
    · rename_i hgu
      cases hb : Nat.beq i j0 with
      | true =>
        simp only [hb, cond_true] at h
        have hij := Nat.eq_of_beq_eq_true hb
        split at h
        · rename_i s out out' hds hpn ho ho'
          obtain ⟨⟨c1, c2⟩, ⟨e1, e2⟩, ⟨e3, e4⟩, hk⟩ := h
          have s1 := stepF_of_opH hT ho c1
          have s2 := stepF_of_opH hT ho' c2
          rw [e3] at s1
          rw [e4, ← e2, e1] at s2
          refine cons _ H Hk out.touch ⟨hdst, .inr ⟨(fun j want e => by rw [hgu] at e; cases e), out.d, fun s => rfl, s1⟩⟩ (fun _ => rfl) (fun e => by omega) (fun _ => ⟨hgu, s, hds, fun d hd => ?_⟩) hk
          rw [lookup_bindD, if_pos hds] at hd
          injection hd with hd
          rw [← hd]; exact s2
        · exact h.elim
      | false =>
        simp only [hb, cond_false] at h
        have hne : i ≠ j0 := fun e => by subst e; simp at hb
        obtain ⟨d, H', t, hk, hst⟩ := vOp_step hT (xOp_ok hc h)
        refine cons _ H' _ t ⟨hdst, .inr ⟨(fun j want e => by rw [hgu] at e; cases e), d, fun s => rfl, hst⟩⟩ (fun hlt => ?_) (fun e => ?_) (fun e => absurd e hne) hk
        · have : Nat.beq i k0 = false := by
            cases hbb : Nat.beq i k0 with
            | false => rfl
            | true => have := Nat.eq_of_beq_eq_true hbb; omega
          rw [this]; rfl
        · subst e
          simp
theorem region_soundA {id k0 j0 : Nat} {Q : Exit → Env → Heap → Prop} {env : Env} {H : Heap} (hm : P.follows .mixedOrders = true) (hc : CallOK P call) (hok : codeOk nt (.region id ops true) = true)
    (h : xOpsA P call T k0 j0 ops.toList 0 env H [] [] fun env' H' ts => regOkA ops k0 j0 ts.reverse = true ∧ Q .normal env' H') (hkj : k0 < j0) : DW P nt (.region id ops true) Q env H := by
  have hdst : ∀ o ∈ ops.toList, ∀ s, o.dst = some s → s < nt := by
    intro o ho s hs
    simp only [codeOk] at hok
    have := Array.all_eq_true_iff_forall_mem.1 hok o (by simpa using ho)
    simp only [hs, decide_eq_true_eq] at this
    exact this
  have hg : ∀ j s, gslot ops j = some s → s < nt := by
    intro j s hj
    unfold gslot at hj
    cases ho : ops[j]? with
    | none => simp [ho] at hj
    | some o =>
      simp only [ho, Option.bind_some] at hj
      exact hdst o (by simpa using Array.mem_of_getElem? ho) s hj
  obtain ⟨tl, envs, Hs, rfl, rfl, hst, hal, hchk, hq⟩ := xOpsA_trace (nt := nt) (ops := ops) hT hkj hc ops.toList 0 env H [] [] _ hdst h
  rw [List.append_nil, List.reverse_reverse] at hchk
  have hlen : ops.toList.length = ops.size := by simp
  intro ρ S w a hi
  refine draw_soundA hm (checkedA_of hchk) hg (fun k o hk => hst k o (by simpa using hk)) (fun j k o hj ho => ?_) hi fun ρ' S' w' a' h1 h2 => ?_
  · cases hb : Nat.beq j j0 with
    | false => simp [hb] at hj
    | true =>
      simp only [hb, cond_true, Option.some.injEq] at hj
      subst hj
      have hjj := Nat.eq_of_beq_eq_true hb
      obtain ⟨g1, s, g2, g3⟩ := hal j o (by omega) (by simpa using ho)
      refine ⟨g1, s, g2, fun d hd => ?_⟩
      have := g3 d hd
      rw [if_neg (by omega), Nat.sub_zero] at this
      exact this
  · rw [← hlen] at h1 h2
    exact ⟨_, _, ρ', S', hq, h1, h2⟩
omit hT
def vcxA (P : Program) (call : CallO) (lp : Nat → Option LoopO) (al : Nat → Option (Nat × Nat)) (T : Tbl) (N : Nat) : Code → (Exit → Env → Heap → Prop) → Env → Heap → Prop
  | .region id ops draw, Q, env, H => match al id with
    | some (k0, j0) => draw = true ∧ Nat.ble (k0 + 1) j0 = true ∧ xOpsA P call T k0 j0 ops.toList 0 env H [] [] fun env' H' ts => regOkA ops k0 j0 ts.reverse = true ∧ Q .normal env' H'
    | none => vcx P call lp T N (.region id ops draw) Q env H
  | .seq a b, Q, env, H => vcxA P call lp al T N a (thenQ (fun env' H' => vcxA P call lp al T N b Q env' H') Q) env H
  | .cond c x y, Q, env, H => match opnd env c with
    | some (.v (.bool b)) => pcond b (vcxA P call lp al T N x Q env H) (vcxA P call lp al T N y Q env H)
    | _ => False
  | c, Q, env, H => vcx P call lp T N c Q env H
include hT
theorem vcxA_sound (hm : P.follows .mixedOrders = true) (hc : CallOK P call) : ∀ (c : Code) (Q : Exit → Env → Heap → Prop) (env : Env) (H : Heap), codeOk nt c = true → LpAll P nt lp (loopsOf c) → vcxA P call lp al T N c Q env H → DW P nt c Q env H
  | .region id ops draw, Q, env, H, hok, hl, h => by
    simp only [vcxA] at h
    split at h
    · obtain ⟨rfl, hb, h⟩ := h
      exact region_soundA hT hm hc hok h (Nat.le_of_ble_eq_true hb)
    · exact vcx_sound hT hm hc _ Q env H hok hl h
  | .seq a b, Q, env, H, hok, hl, h => by
    simp only [codeOk, Bool.and_eq_true] at hok
    obtain ⟨hl1, hl2⟩ := LpAll.app hl
    intro ρ S w ac hi
    refine wp_seq (wp_mono (vcxA_sound hm hc a _ env H hok.1 hl1 h ρ S w ac hi) fun e a' w' ⟨env', H', ρ', S', h1, h2, h3⟩ => ?_)
    cases e with
    | normal =>
      refine wp_mono (vcxA_sound hm hc b Q env' H' hok.2 hl2 h1 ρ' S' w' a' h2) fun e a'' w'' ⟨env'', H'', ρ'', S'', h4, h5, h6⟩ => ?_
      exact ⟨env'', H'', ρ'', S'', h4, h5, h3.trans h6⟩
    | _ => exact ⟨env', H', ρ', S', h1, h2, h3⟩
  | .cond c x y, Q, env, H, hok, hl, h => by
    simp only [codeOk, Bool.and_eq_true] at hok
    obtain ⟨hl1, hl2⟩ := LpAll.app hl
    intro ρ S w ac hi
    simp only [vcxA] at h
    split at h
    · rename_i b hb
      have hv := get_rd hi.st.glob hi.env c _ hb
      simp only [Rd] at hv
      obtain ⟨h1, h2⟩ := cond_prop h
      cases b with
      | true => exact wp_cond hv (vcxA_sound hm hc x Q env H hok.1 hl1 (h1 rfl) ρ S w ac hi)
      | false => exact wp_cond hv (vcxA_sound hm hc y Q env H hok.2 hl2 (h2 rfl) ρ S w ac hi)
    · exact h.elim
  | .block id c, Q, env, H, hok, hl, h => vcx_sound hT hm hc _ Q env H hok hl h
  | .skip, Q, env, H, hok, hl, h => vcx_sound hT hm hc _ Q env H hok hl h
  | .exit id, Q, env, H, hok, hl, h => vcx_sound hT hm hc _ Q env H hok hl h
  | .ret, Q, env, H, hok, hl, h => vcx_sound hT hm hc _ Q env H hok hl h
  | .label l, Q, env, H, hok, hl, h => vcx_sound hT hm hc _ Q env H hok hl h
  | .goto l, Q, env, H, hok, hl, h => vcx_sound hT hm hc _ Q env H hok hl h
  | .refuse m, Q, env, H, hok, hl, h => vcx_sound hT hm hc _ Q env H hok hl h
  | .scope c, Q, env, H, hok, hl, h => vcx_sound hT hm hc _ Q env H hok hl h
  | .loop c, Q, env, H, hok, hl, h => vcx_sound hT hm hc _ Q env H hok hl h
  | .rangeFunc .., Q, env, H, hok, hl, h => vcx_sound hT hm hc _ Q env H hok hl h
theorem mutJ_of_vcxA (hm : P.follows .mixedOrders = true) (hc : CallOK P call) {f : FuncId} {fn : Func} {c : Code} {off n : Nat} {cp : Cap} {plain : List D} {blk blk' : Blk} {d : D} (hf : P.funcs[f]? = some fn) (hb : fn.body = some c)
    (hname : (fn.name == "runtime.NumGoroutine") = false) (hok : codeOk fn.ntmps c = true) (hlen : decide ((.sl 0 off n cp :: plain).length ≤ fn.ntmps) = true) (hl : LpAll P fn.ntmps lp (loopsOf c)) (h1 : NamelessL plain) (h2 : Nameless d) (h3 : NamelessL blk.cs) (h4 : NamelessL blk'.cs)
    (h : vcxA P call lp al T N c (retQ T fn.results.toList fun d1 H1 => d1 = d ∧ H1 = [some blk']) (envOf 0 (.sl 0 off n cp :: plain)) [some blk]) : MutJ P f off n cp plain blk d blk' := by
  refine ⟨callJ_of_dw hT hf hb hname (by simpa using hlen) ((vcxA_sound hT hm hc c _ _ _ hok hl h).mono fun e env H h => ?_), h1, h2, h3, h4⟩
  cases e <;> simp only [retQ] at h ⊢
  all_goals first
    | exact h.elim
    | (split at h
       · obtain ⟨g1, rfl, rfl⟩ := h
         exact ⟨g1, fin_same⟩
       · exact h.elim)
end
end Go.VD
end
section
namespace Go.Proofs.Ytahiigfpikohgaa
open Go.VD
set_option linter.unusedVariables false
set_option linter.unusedSimpArgs false
set_option maxRecDepth 100000
def bt (s : ByteArray) (i : Nat) : Nat := (s.data.toList.getD i 0).toNat
theorem get_bt (s : ByteArray) (i : Nat) : (s.get! i).toNat = bt s i := by
  have : s.get! i = s.data.toList.getD i 0 := by
    obtain ⟨⟨l⟩⟩ := s
    simp only [ByteArray.get!, List.getD_eq_getElem?_getD]
    rw [getElem!_def]
    simp
    rfl
  rw [this]; rfl
theorem dec_ascii {s : ByteArray} {i : Nat} (h : bt s i < 128) : Utf8.decode s i = (bt s i, 1) := by
  unfold Utf8.decode
  simp only [Nat.add_zero, get_bt]
  rw [if_pos h]
theorem dec_high {s : ByteArray} {i : Nat} (h : 128 ≤ bt s i) (h2 : bt s i < 256) : 128 ≤ (Utf8.decode s i).1 ∧ (Utf8.decode s i).1 < 2147483648 := by
  unfold Utf8.decode
  simp only [Nat.add_zero, get_bt, Utf8.runeError]
  rw [if_neg (by omega)]
  split
  · split <;> (simp only; omega)
  · split
    · split
      · rename_i hc
        simp only [Bool.and_eq_true, decide_eq_true_eq] at hc
        simp only; omega
      · simp only; omega
    · split
      · split
        · rename_i hc
          simp only [Bool.and_eq_true, decide_eq_true_eq] at hc
          simp only; omega
        · simp only; omega
      · simp only; omega
theorem bt_lt (s : ByteArray) (i : Nat) : bt s i < 256 := (s.data.toList.getD i 0).toNat_lt
theorem isDigit_pure (c : Int) : PureJ Try.prog 55 [.v (.int .i32 c)] (.v (.bool (decide (48 ≤ c) && decide (c ≤ 57)))) := by
  refine pureJ_of_vcx (call := noCalls) (lp := fun _ => none) (N := 10) T_ok mixed noCalls_ok Try.func55 rfl (by decide) (by kernel_rfl) (by kernel_rfl) (LpAll.none _) (by first | trivial | (simp only [NamelessL, Nameless, and_self, and_true, true_and]; done) | (simp [NamelessL, Nameless, u32s_nameless, namelessL_ints]; done)) (by first | trivial | (simp only [NamelessL, Nameless, and_self, and_true, true_and]; done) | (simp [NamelessL, Nameless, u32s_nameless, namelessL_ints]; done)) ?_
  refine of_eq (B := letI z1 := (Decidable.decide ((48 : Int) ≤ c)); letI z2 := (Decidable.decide (c ≤ (57 : Int))); letI z0 := (D.v (Value.bool (z1 && z2))); (True ∧ (True ∧ (True ∧ (True ∧ (pcond z1 (True ∧ (True ∧ (True ∧ (True ∧ (True ∧ (True ∧ ((D.v (Value.bool z2)) = z0))))))) (True ∧ (True ∧ (True ∧ (True ∧ ((D.v (Value.bool Bool.false)) = z0))))))))))) (by kernel_rfl) ?_
  simp only [true_and, and_true, and_self, IsInt_lit, IsBool_lit, IsStr_lit, IsSl_lit, cellN_lit, cellL_lit, Bool.not_eq_true', Bool.not_eq_false', Bool.not_true, Bool.not_false, Int.reduceLE, Int.reduceLT, Int.reduceNeg, Nat.le_refl, Int.le_refl, Nat.reduceLT, Nat.reduceLeDiff, Nat.reduceEqDiff, D.v.injEq, D.tup.injEq, D.agg.injEq, D.ro.injEq, List.cons.injEq, Value.int.injEq, Value.bool.injEq, pcond_true, pcond_false, NamelessL, Nameless, Nat.reduceMul, Nat.reduceAdd, Nat.zero_add, Int.toNat_natCast]
  refine pcond_intro (fun h => ?_) (fun h => ?_)
  · simp only [decide_eq_true_eq] at h; simp [h]
  · simp only [decide_eq_false_iff_not] at h; simp [h]
def ent_isDigit : Ent := fun ds => match ds with
  | [.v (.int .i32 c)] => some (.v (.bool (decide (48 ≤ c) && decide (c ≤ 57))), True)
  | _ => none
theorem ent_isDigit_ok : EntOk Try.prog 55 ent_isDigit := by
  intro ds d c h hc; unfold ent_isDigit at h; split at h
  · obtain ⟨rfl, rfl⟩ := pair_inj h; exact isDigit_pure _
  · cases h
theorem dec_pred {p : Nat → Bool} (hp : ∀ n, p n = true → n < 128) (s : ByteArray) (x : Nat) : p (Utf8.decode s x).1 = p (bt s x) ∧ (p (bt s x) = true → (Utf8.decode s x).2 = 1) := by
  by_cases h : bt s x < 128
  · rw [dec_ascii h]; exact ⟨rfl, fun _ => rfl⟩
  · have hh := (dec_high (show 128 ≤ bt s x by omega) (bt_lt s x)).1
    have e1 : p (Utf8.decode s x).1 = false := by
      cases hq : p (Utf8.decode s x).1 with
      | false => rfl
      | true => have := hp _ hq; omega
    have e2 : p (bt s x) = false := by
      cases hq : p (bt s x) with
      | false => rfl
      | true => have := hp _ hq; omega
    rw [e1, e2]
    exact ⟨rfl, fun h => by cases h⟩
def digB (n : Nat) : Bool := decide (48 ≤ n) && decide (n ≤ 57)
theorem digB_int (n : Nat) : (decide (48 ≤ (n : Int)) && decide ((n : Int) ≤ 57)) = digB n := by
  unfold digB
  rw [Bool.eq_iff_iff]; simp only [Bool.and_eq_true, decide_eq_true_eq]; omega
theorem digB_lt (n : Nat) (h : digB n = true) : n < 128 := by
  unfold digB at h; simp only [Bool.and_eq_true, decide_eq_true_eq] at h; omega
def lp_spanDLoop (s : ByteArray) : LoopO := loopRule2 (α := Nat) (β := Unit) (γ := Nat) [some 0] (fun n => n ≤ s.size ∧ ∀ i, i < n → digB (bt s i) = true) (fun n => [(0, .v (.string s)), (1, .fn 55 0 []), (8, .ptr 0 0)]) (fun n => [some ⟨itTy, [.v (.string s), .v (.int .i64 (n : Int))], true⟩]) (0) (fun _ => ∀ i, i < s.size → digB (bt s i) = true) (fun _ => (.exit 0, [(0, .v (.string s))], [])) (fun n => n < s.size ∧ digB (bt s n) = false ∧ ∀ i, i < n → digB (bt s i) = true) (fun n => (.ret, [(4, .v (.int .i64 (n : Int)))], []))
theorem spanDLoop_rule (s : ByteArray) (hpre : s.size ≤ 9223372036854775807) : LRuleP Try.prog Try.f36.ntmps (loopAt ((Try.f36.body).getD .skip) 2) (lp_spanDLoop s) := by
  refine lrule_of2 (α := Nat) (β := Unit) (γ := Nat) (call := (addPure 55 ent_isDigit noCalls)) (lp := fun _ => none) (N := 10) T_ok mixed (addPure_ok ent_isDigit_ok noCalls_ok) (fun n => s.size - n) (by kernel_rfl) (LpAllP.none _) ?_
  intro x hJ
  refine of_eq (B := letI z9 := (D.v (Value.string s)); letI z5 := (Int.toNat ((x : Nat) : Int)); letI z0 := (Option.some (Blk.mk (1000000007 : Nat) [z9, (D.v (Value.int IntKind.i64 (((z5 + (Prod.snd (Utf8.decode s z5))) : Nat) : Int)))] Bool.true)); letI z7 := (Exit.exit (0 : Nat)); letI z2 := (Prod.mk (0 : Nat) z9); letI z6 := ([] : List (Option Blk)); letI z1 := (Prod.mk z7 (Prod.mk [z2] z6)); letI z10 := (D.v (Value.int IntKind.i64 ((x : Nat) : Int))); letI z3 := (Option.some (Blk.mk (1000000007 : Nat) [z9, z10] Bool.true)); letI z4 := ByteArray.size s; letI z8 := (List (Option Nat)); letI z11 := (Prod.mk (8 : Nat) (D.ptr (0 : Nat) (0 : Nat))); letI z12 := (((Prod.fst (Utf8.decode s z5)) : Nat) : Int); (pcond (Decidable.decide (z5 < z4)) (True ∧ (True ∧ (True ∧ (True ∧ (True ∧ (True ∧ (True ∧ (True ∧ (True ∧ (pcond (!((Decidable.decide ((48 : Int) ≤ z12)) && (Decidable.decide (z12 ≤ (57 : Int))))) (True ∧ (True ∧ ((∃ (r : Unit), (∃ (kp : z8), ((∀ (i : Nat), ((i < z4) → ((digB (bt s i)) = Bool.true))) ∧ ((Exit.ret = z7) ∧ (viewAll kp [z2] [z0] (Prod.fst (Prod.snd ((fun (x_1 : Unit) => z1) r))) (Prod.snd (Prod.snd ((fun (x_1 : Unit) => z1) r)))))))) ∨ (∃ (r : Nat), (∃ (kp : z8), (((r < z4) ∧ (((digB (bt s r)) = Bool.false) ∧ (∀ (i : Nat), ((i < r) → ((digB (bt s i)) = Bool.true))))) ∧ ((Exit.ret = Exit.ret) ∧ (viewAll kp [(Prod.mk (4 : Nat) z10)] [z0] (Prod.fst (Prod.snd ((fun (n : Nat) => (Prod.mk Exit.ret (Prod.mk [(Prod.mk (4 : Nat) (D.v (Value.int IntKind.i64 ((n : Nat) : Int))))] z6))) r))) (Prod.snd (Prod.snd ((fun (n : Nat) => (Prod.mk Exit.ret (Prod.mk [(Prod.mk (4 : Nat) (D.v (Value.int IntKind.i64 ((n : Nat) : Int))))] z6))) r))))))))))) (∃ (y : Nat), (∃ (kp : z8), (((z4 - y) < (z4 - x)) ∧ (((y ≤ z4) ∧ (∀ (i : Nat), ((i < y) → ((digB (bt s i)) = Bool.true)))) ∧ (viewAll kp [z2, (Prod.mk (1 : Nat) (D.fn (55 : Nat) (0 : Nat) ([] : List D))), z11] [z0] [z2, (Prod.mk (1 : Nat) (D.fn (55 : FuncId) (0 : Nat) ([] : List D))), z11] [(Option.some (Blk.mk itTy [z9, (D.v (Value.int IntKind.i64 ((y : Nat) : Int)))] Bool.true))]))))))))))))))) (True ∧ ((∃ (r : Unit), (∃ (kp : z8), ((∀ (i : Nat), ((i < z4) → ((digB (bt s i)) = Bool.true))) ∧ ((z7 = z7) ∧ (viewAll kp [z2] [z3] (Prod.fst (Prod.snd ((fun (x_1 : Unit) => z1) r))) (Prod.snd (Prod.snd ((fun (x_1 : Unit) => z1) r)))))))) ∨ (∃ (r : Nat), (∃ (kp : z8), (((r < z4) ∧ (((digB (bt s r)) = Bool.false) ∧ (∀ (i : Nat), ((i < r) → ((digB (bt s i)) = Bool.true))))) ∧ ((z7 = Exit.ret) ∧ (viewAll kp ([] : List (Prod Nat D)) [z3] (Prod.fst (Prod.snd ((fun (n : Nat) => (Prod.mk Exit.ret (Prod.mk [(Prod.mk (4 : Nat) (D.v (Value.int IntKind.i64 ((n : Nat) : Int))))] z6))) r))) (Prod.snd (Prod.snd ((fun (n : Nat) => (Prod.mk Exit.ret (Prod.mk [(Prod.mk (4 : Nat) (D.v (Value.int IntKind.i64 ((n : Nat) : Int))))] z6))) r)))))))))))) (by kernel_rfl) ?_
  simp only [true_and, and_true, and_self, IsInt_lit, IsBool_lit, IsStr_lit, IsSl_lit, cellN_lit, cellL_lit, Bool.not_eq_true', Bool.not_eq_false', Bool.not_true, Bool.not_false, Int.reduceLE, Int.reduceLT, Int.reduceNeg, Nat.le_refl, Int.le_refl, Nat.reduceLT, Nat.reduceLeDiff, Nat.reduceEqDiff, D.v.injEq, D.tup.injEq, D.agg.injEq, D.ro.injEq, List.cons.injEq, Value.int.injEq, Value.bool.injEq, pcond_true, pcond_false, NamelessL, Nameless, Nat.reduceMul, Nat.reduceAdd, Nat.zero_add, Int.toNat_natCast] at *
  obtain ⟨hx, hall⟩ := hJ
  obtain ⟨p1, p2⟩ := dec_pred digB_lt s x
  rw [digB_int, p1]
  refine pcond_intro (fun h => ?_) (fun h => .inl ⟨(), [], ?_, ?_⟩)
  · simp only [decide_eq_true_eq] at h
    refine pcond_intro (fun h1 => .inr ⟨x, [], ⟨h, by simpa using h1, hall⟩, ?_⟩) (fun h1 => ⟨x + 1, [some 0], by omega, ⟨by omega, fun i hi => ?_⟩, ?_⟩)
    · refine of_eq (B := letI z0 := (D.v (Value.int IntKind.i64 ((x : Nat) : Int))); letI z1 := ([] : List (Option Blk)); ((Bool.true = Bool.true) ∧ ((z1 = z1) ∧ ((True ∧ (z0 = z0)) ∧ True)))) (by kernel_rfl) ?_
      simp
    · rcases Nat.lt_or_ge i x with h2 | h2
      · exact hall i h2
      · rw [show i = x by omega]; simpa using h1
    · have h1 : digB (bt s x) = true := by simpa using h1
      rw [p2 h1]
      refine of_eq (B := letI z2 := (D.v (Value.string s)); letI z1 := (D.v (Value.int IntKind.i64 (((x + (1 : Nat)) : Nat) : Int))); letI z0 := (Option.some (Blk.mk (1000000007 : Nat) [z2, z1] Bool.true)); letI z3 := (D.fn (55 : Nat) (0 : Nat) ([] : List D)); letI z4 := (D.ptr (0 : Nat) (0 : Nat)); letI z5 := ([] : List (Option Blk)); ((Bool.true = Bool.true) ∧ ((((z0 = z0) ∧ (NamelessL [z2, z1])) ∧ (z5 = z5)) ∧ ((True ∧ (z2 = z2)) ∧ ((True ∧ (z3 = z3)) ∧ ((True ∧ (z4 = z4)) ∧ True)))))) (by kernel_rfl) ?_
      simp [NamelessL, Nameless]
  · simp only [decide_eq_false_iff_not] at h
    intro i hi
    exact hall i (by omega)
  · refine of_eq (B := letI z0 := ([] : List (Option Blk)); letI z1 := (D.v (Value.string s)); ((Bool.true = Bool.true) ∧ ((z0 = z0) ∧ ((True ∧ (z1 = z1)) ∧ True)))) (by kernel_rfl) ?_
    simp
def spN (p : Nat → Bool) (s : ByteArray) : Nat := s.data.toList.findIdx (fun b => !p b.toNat)
theorem size_list (s : ByteArray) : s.size = s.data.toList.length := by rw [Array.length_toList]; rfl
theorem bt_get {s : ByteArray} {i : Nat} (h : i < s.data.toList.length) : bt s i = (s.data.toList[i]).toNat := by
  unfold bt; rw [List.getD_eq_getElem?_getD, List.getElem?_eq_getElem h]; rfl
theorem spN_all {p : Nat → Bool} {s : ByteArray} (h : ∀ i, i < s.size → p (bt s i) = true) : spN p s = s.size := by
  unfold spN
  rw [size_list]
  refine List.findIdx_eq_length.2 fun x hx => ?_
  obtain ⟨i, hi, rfl⟩ := List.getElem_of_mem hx
  have := h i (by rw [size_list]; exact hi)
  rw [bt_get hi] at this
  rw [this]; rfl
theorem spN_at {p : Nat → Bool} {s : ByteArray} {n : Nat} (hn : n < s.size) (h0 : p (bt s n) = false) (h : ∀ i, i < n → p (bt s i) = true) : spN p s = n := by
  unfold spN
  rw [size_list] at hn
  refine (List.findIdx_eq hn).2 ⟨?_, fun j hj => ?_⟩
  · rw [bt_get hn] at h0; rw [h0]; rfl
  · have := h j hj
    rw [bt_get (by omega)] at this
    rw [this]; rfl
theorem spanD_pure (s : ByteArray) (hpre : s.size ≤ 9223372036854775807) : PureJ Try.prog 36 [.v (.string s), .fn 55 0 []] (.v (.int .i64 (spN digB s : Nat))) := by
  refine pureJ_of_vcp (call := noCalls) (lp := fun k => bif Nat.beq k 2 then some (lp_spanDLoop s) else none) (N := 10) T_ok mixed noCalls_ok Try.func36 rfl (by decide) (by kernel_rfl) (by kernel_rfl) (of_eq (B := LRuleP Try.prog Try.f36.ntmps (loopAt ((Try.f36.body).getD .skip) 2) (lp_spanDLoop s) ∧ True) (by kernel_rfl) ⟨spanDLoop_rule s hpre, trivial⟩) (by first | trivial | (simp only [NamelessL, Nameless, and_self, and_true, true_and]; done) | (simp [NamelessL, Nameless, u32s_nameless, namelessL_ints]; done)) (by first | trivial | (simp only [NamelessL, Nameless, and_self, and_true, true_and]; done) | (simp [NamelessL, Nameless, u32s_nameless, namelessL_ints]; done)) ?_
  refine of_eq (B := letI z1 := (D.v (Value.string s)); letI z5 := (D.v (Value.int IntKind.i64 (0 : Int))); letI z0 := (Option.some (Blk.mk (1000000007 : Nat) [z1, z5] Bool.true)); letI z2 := (D.v (Value.int IntKind.i64 (((spN digB s) : Nat) : Int))); letI z3 := ByteArray.size s; letI z4 := (D.fn (55 : Nat) (0 : Nat) ([] : List D)); letI z6 := (D.ptr (0 : Nat) (0 : Nat)); letI z7 := ([] : List (Option Blk)); (True ∧ (True ∧ (True ∧ ((((0 : Nat) ≤ z3) ∧ (∀ (i : Nat), ((i < (0 : Nat)) → ((digB (bt s i)) = Bool.true)))) ∧ (((Bool.true = Bool.true) ∧ ((((z0 = z0) ∧ (NamelessL [z1, z5])) ∧ (z7 = z7)) ∧ ((True ∧ (z1 = z1)) ∧ ((True ∧ (z4 = z4)) ∧ ((True ∧ (z6 = z6)) ∧ True))))) ∧ ((Unit → ((∀ (i : Nat), ((i < z3) → ((digB (bt s i)) = Bool.true))) → (True ∧ (True ∧ (True ∧ (True ∧ (True ∧ ((D.v (Value.int IntKind.i64 ((z3 : Nat) : Int))) = z2)))))))) ∧ (∀ (r : Nat), (((r < z3) ∧ (((digB (bt s r)) = Bool.false) ∧ (∀ (i : Nat), ((i < r) → ((digB (bt s i)) = Bool.true))))) → (True ∧ (True ∧ ((D.v (Value.int IntKind.i64 ((r : Nat) : Int))) = z2)))))))))))) (by kernel_rfl) ?_
  simp only [true_and, and_true, and_self, IsInt_lit, IsBool_lit, IsStr_lit, IsSl_lit, cellN_lit, cellL_lit, Bool.not_eq_true', Bool.not_eq_false', Bool.not_true, Bool.not_false, Int.reduceLE, Int.reduceLT, Int.reduceNeg, Nat.le_refl, Int.le_refl, Nat.reduceLT, Nat.reduceLeDiff, Nat.reduceEqDiff, D.v.injEq, D.tup.injEq, D.agg.injEq, D.ro.injEq, List.cons.injEq, Value.int.injEq, Value.bool.injEq, pcond_true, pcond_false, NamelessL, Nameless, Nat.reduceMul, Nat.reduceAdd, Nat.zero_add, Int.toNat_natCast]
  refine ⟨⟨Nat.zero_le _, fun i h => absurd h (Nat.not_lt_zero _)⟩, fun _ h => by rw [spN_all h], fun r h => by rw [spN_at h.1 h.2.1 h.2.2]⟩
def ent_spanD : Ent := fun ds => match ds with
  | [.v (.string s), .fn 55 0 []] => some (.v (.int .i64 (spN digB s : Nat)), s.size ≤ 9223372036854775807)
  | _ => none
theorem ent_spanD_ok : EntOk Try.prog 36 ent_spanD := by
  intro ds d c h hc; unfold ent_spanD at h; split at h
  · obtain ⟨rfl, rfl⟩ := pair_inj h; exact spanD_pure _ hc
  · cases h
end Go.Proofs.Ytahiigfpikohgaa
end
section
namespace Go.Proofs.Ytahiigfpikohgaa
open Go.VD
set_option linter.unusedVariables false
set_option linter.unusedSimpArgs false
set_option maxRecDepth 100000
theorem iByte0_pure (s : ByteArray) (c : Int) : PureJ Try.prog 70 [.v (.string s), .v (.int .u8 c)] (.v (.int .i64 (Lib.indexByte s.data.toList c.toNat.toUInt8))) := by
  refine pureJ_of_vcx (call := (addExt 72 ent_x_index noCalls)) (lp := fun _ => none) (N := 10) T_ok mixed (addExt_ok ent_x_index_ok noCalls_ok) Try.func70 rfl (by decide) (by kernel_rfl) (by kernel_rfl) (LpAll.none _) (by first | trivial | (simp only [NamelessL, Nameless, and_self, and_true, true_and]; done) | (simp [NamelessL, Nameless, u32s_nameless, namelessL_ints]; done)) (by first | trivial | (simp only [NamelessL, Nameless, and_self, and_true, true_and]; done) | (simp [NamelessL, Nameless, u32s_nameless, namelessL_ints]; done)) ?_
  refine of_eq (B := letI z0 := (D.v (Value.int IntKind.i64 (Lib.indexByte (Array.toList (ByteArray.data s)) (UInt8.ofBitVec (BitVec.ofFin (Fin.mk ((Int.toNat c) % (256 : Nat)) (Nat.mod_lt (Int.toNat c) (BitVec.ofNat._proof_1 (8 : Nat))))))))); (True ∧ (True ∧ (True ∧ (True ∧ (True ∧ (True ∧ (True ∧ (z0 = z0))))))))) (by kernel_rfl) ?_
  simp only [true_and, and_true, and_self, IsInt_lit, IsBool_lit, IsStr_lit, IsSl_lit, cellN_lit, cellL_lit, Bool.not_eq_true', Bool.not_eq_false', Bool.not_true, Bool.not_false, Int.reduceLE, Int.reduceLT, Int.reduceNeg, Nat.le_refl, Int.le_refl, Nat.reduceLT, Nat.reduceLeDiff, Nat.reduceEqDiff, D.v.injEq, D.tup.injEq, D.agg.injEq, D.ro.injEq, List.cons.injEq, Value.int.injEq, Value.bool.injEq, pcond_true, pcond_false, NamelessL, Nameless, Nat.reduceMul, Nat.reduceAdd, Nat.zero_add, Int.toNat_natCast]
def ent_iByte0 : Ent := fun ds => match ds with
  | [.v (.string s), .v (.int .u8 c)] => some (.v (.int .i64 (Lib.indexByte s.data.toList c.toNat.toUInt8)), True)
  | _ => none
theorem ent_iByte0_ok : EntOk Try.prog 70 ent_iByte0 := by
  intro ds d c h hc; unfold ent_iByte0 at h; split at h
  · obtain ⟨rfl, rfl⟩ := pair_inj h; exact iByte0_pure _ _
  · cases h
theorem iByte_pure (s : ByteArray) (c : Int) : PureJ Try.prog 66 [.v (.string s), .v (.int .u8 c)] (.v (.int .i64 (Lib.indexByte s.data.toList c.toNat.toUInt8))) := by
  refine pureJ_of_vcx (call := (addPure 70 ent_iByte0 noCalls)) (lp := fun _ => none) (N := 10) T_ok mixed (addPure_ok ent_iByte0_ok noCalls_ok) Try.func66 rfl (by decide) (by kernel_rfl) (by kernel_rfl) (LpAll.none _) (by first | trivial | (simp only [NamelessL, Nameless, and_self, and_true, true_and]; done) | (simp [NamelessL, Nameless, u32s_nameless, namelessL_ints]; done)) (by first | trivial | (simp only [NamelessL, Nameless, and_self, and_true, true_and]; done) | (simp [NamelessL, Nameless, u32s_nameless, namelessL_ints]; done)) ?_
  refine of_eq (B := letI z0 := (D.v (Value.int IntKind.i64 (Lib.indexByte (Array.toList (ByteArray.data s)) (UInt8.ofBitVec (BitVec.ofFin (Fin.mk ((Int.toNat c) % (256 : Nat)) (Nat.mod_lt (Int.toNat c) (BitVec.ofNat._proof_1 (8 : Nat))))))))); (True ∧ (True ∧ (True ∧ (True ∧ (True ∧ (True ∧ (True ∧ (z0 = z0))))))))) (by kernel_rfl) ?_
  simp only [true_and, and_true, and_self, IsInt_lit, IsBool_lit, IsStr_lit, IsSl_lit, cellN_lit, cellL_lit, Bool.not_eq_true', Bool.not_eq_false', Bool.not_true, Bool.not_false, Int.reduceLE, Int.reduceLT, Int.reduceNeg, Nat.le_refl, Int.le_refl, Nat.reduceLT, Nat.reduceLeDiff, Nat.reduceEqDiff, D.v.injEq, D.tup.injEq, D.agg.injEq, D.ro.injEq, List.cons.injEq, Value.int.injEq, Value.bool.injEq, pcond_true, pcond_false, NamelessL, Nameless, Nat.reduceMul, Nat.reduceAdd, Nat.zero_add, Int.toNat_natCast]
def ent_iByte : Ent := fun ds => match ds with
  | [.v (.string s), .v (.int .u8 c)] => some (.v (.int .i64 (Lib.indexByte s.data.toList c.toNat.toUInt8)), True)
  | _ => none
theorem ent_iByte_ok : EntOk Try.prog 66 ent_iByte := by
  intro ds d c h hc; unfold ent_iByte at h; split at h
  · obtain ⟨rfl, rfl⟩ := pair_inj h; exact iByte_pure _ _
  · cases h
theorem vRune_pure (c : Int) : PureJ Try.prog 67 [.v (.int .i32 c)] (.v (.bool (Utf8.valid c))) := by
  refine pureJ_of_vcx (call := noCalls) (lp := fun _ => none) (N := 10) T_ok mixed noCalls_ok Try.func67 rfl (by decide) (by kernel_rfl) (by kernel_rfl) (LpAll.none _) (by first | trivial | (simp only [NamelessL, Nameless, and_self, and_true, true_and]; done) | (simp [NamelessL, Nameless, u32s_nameless, namelessL_ints]; done)) (by first | trivial | (simp only [NamelessL, Nameless, and_self, and_true, true_and]; done) | (simp [NamelessL, Nameless, u32s_nameless, namelessL_ints]; done)) ?_
  refine of_eq (B := letI z3 := (D.v (Value.bool (Utf8.valid c))); letI z2 := (True ∧ (True ∧ (True ∧ ((D.v (Value.bool Bool.true)) = z3)))); letI z1 := (True ∧ (True ∧ (True ∧ ((D.v (Value.bool Bool.false)) = z3)))); letI z0 := (True ∧ (True ∧ (True ∧ (pcond (Decidable.decide ((57343 : Int) < c)) (True ∧ (True ∧ (True ∧ (True ∧ (pcond (Decidable.decide (c ≤ (1114111 : Int))) z2 z1))))) (True ∧ (True ∧ z1)))))); (True ∧ (True ∧ (True ∧ (True ∧ (pcond (Decidable.decide ((0 : Int) ≤ c)) (True ∧ (True ∧ (True ∧ (True ∧ (pcond (Decidable.decide (c < (55296 : Int))) z2 z0))))) (True ∧ (True ∧ z0)))))))) (by kernel_rfl) ?_
  simp only [true_and, and_true, and_self, IsInt_lit, IsBool_lit, IsStr_lit, IsSl_lit, cellN_lit, cellL_lit, Bool.not_eq_true', Bool.not_eq_false', Bool.not_true, Bool.not_false, Int.reduceLE, Int.reduceLT, Int.reduceNeg, Nat.le_refl, Int.le_refl, Nat.reduceLT, Nat.reduceLeDiff, Nat.reduceEqDiff, D.v.injEq, D.tup.injEq, D.agg.injEq, D.ro.injEq, List.cons.injEq, Value.int.injEq, Value.bool.injEq, pcond_true, pcond_false, NamelessL, Nameless, Nat.reduceMul, Nat.reduceAdd, Nat.zero_add, Int.toNat_natCast]
  have e : Utf8.valid c = (decide (0 ≤ c) && decide (c < 55296) || (decide (57343 < c) && decide (c ≤ 1114111))) := by
    unfold Utf8.valid
    rw [Bool.eq_iff_iff]; simp; omega
  rw [e]
  cases decide (0 ≤ c) <;> cases decide (c < 55296) <;> cases decide (57343 < c) <;> cases decide (c ≤ 1114111) <;> simp [pcond]
def ent_vRune : Ent := fun ds => match ds with
  | [.v (.int .i32 c)] => some (.v (.bool (Utf8.valid c)), True)
  | _ => none
theorem ent_vRune_ok : EntOk Try.prog 67 ent_vRune := by
  intro ds d c h hc; unfold ent_vRune at h; split at h
  · obtain ⟨rfl, rfl⟩ := pair_inj h; exact vRune_pure _
  · cases h
def lp_never : LoopO := fun _ _ _ => False
theorem never_rule {P : Program} {nt : Nat} {c : Code} : LRuleP P nt c lp_never := fun _ _ _ h => h.elim
def marks : ByteArray := ⟨#[95, 45, 43, 46, 47, 58]⟩
theorem enc_high {c : Int} (hc : 128 ≤ c) (hv : Utf8.valid c = true) : 2 ≤ (Utf8.encode c).size ∧ (Utf8.encode c).size ≤ 4 ∧ ∀ j, j < (Utf8.encode c).size → 128 ≤ ((Utf8.encode c).data.toList.getD j 0).toNat := by
  have hl : c ≤ 1114111 := by
    unfold Utf8.valid at hv; simp only [Bool.or_eq_true, Bool.and_eq_true, decide_eq_true_eq] at hv; omega
  obtain ⟨n, rfl⟩ := Int.eq_ofNat_of_zero_le (show 0 ≤ c by omega)
  unfold Utf8.encode
  simp only [hv, if_true, Int.toNat_natCast]
  rw [if_neg (by omega)]
  split
  · refine ⟨show 2 ≤ 2 by decide, show 2 ≤ 4 by decide, fun j hj => ?_⟩
    have hj : j < 2 := hj
    match j, hj with
    | 0, _ => simp only [List.getD_cons_zero, UInt8.toNat_ofNat']; omega
    | 1, _ => simp only [List.getD_cons_succ, List.getD_cons_zero, UInt8.toNat_ofNat']; omega
  · split
    · refine ⟨show 2 ≤ 3 by decide, show 3 ≤ 4 by decide, fun j hj => ?_⟩
      have hj : j < 3 := hj
      match j, hj with
      | 0, _ => simp only [List.getD_cons_zero, UInt8.toNat_ofNat']; omega
      | 1, _ => simp only [List.getD_cons_succ, List.getD_cons_zero, UInt8.toNat_ofNat']; omega
      | 2, _ => simp only [List.getD_cons_succ, List.getD_cons_zero, UInt8.toNat_ofNat']; omega
    · refine ⟨show 2 ≤ 4 by decide, show 4 ≤ 4 by decide, fun j hj => ?_⟩
      have hj : j < 4 := hj
      match j, hj with
      | 0, _ => simp only [List.getD_cons_zero, UInt8.toNat_ofNat']; omega
      | 1, _ => simp only [List.getD_cons_succ, List.getD_cons_zero, UInt8.toNat_ofNat']; omega
      | 2, _ => simp only [List.getD_cons_succ, List.getD_cons_zero, UInt8.toNat_ofNat']; omega
      | 3, _ => simp only [List.getD_cons_succ, List.getD_cons_zero, UInt8.toNat_ofNat']; omega
theorem idx_none : ∀ (l : List UInt8) (b : UInt8), (∀ x ∈ l, x ≠ b) → Lib.indexByte l b = -1
  | [], b, _ => rfl
  | x :: l, b, h => by
    have h1 : (x == b) = false := beq_eq_false_iff_ne.2 (h x (by simp))
    simp only [Lib.indexByte, h1, idx_none l b fun y hy => h y (by simp [hy])]
    rfl
def mkI (c : Int) : Int := if c < 128 then Lib.indexByte marks.data.toList c.toNat.toUInt8 else -1
theorem iRune_pure (c : Int) (hpre : 0 ≤ c ∧ c < 2147483648) : PureJ Try.prog 62 [.v (.string marks), .v (.int .i32 c)] (.v (.int .i64 (mkI c))) := by
  refine pureJ_of_vcp (call := (addPure 67 ent_vRune (addPure 66 ent_iByte noCalls))) (lp := fun k => bif Nat.beq k 12 then some (lp_never ) else bif Nat.beq k 25 then some (lp_never ) else bif Nat.beq k 29 then some (lp_never ) else none) (N := 10) T_ok mixed (addPure_ok ent_vRune_ok (addPure_ok ent_iByte_ok noCalls_ok)) Try.func62 rfl (by decide) (by kernel_rfl) (by kernel_rfl) (of_eq (B := letI z0 := ((Try.f62.body).getD .skip); True ∧ True ∧ LRuleP Try.prog Try.f62.ntmps (loopAt z0 12) (lp_never ) ∧ LRuleP Try.prog Try.f62.ntmps (loopAt z0 25) (lp_never ) ∧ LRuleP Try.prog Try.f62.ntmps (loopAt z0 29) (lp_never ) ∧ True) (by kernel_rfl) ⟨trivial, ⟨trivial, ⟨never_rule , ⟨never_rule , ⟨never_rule , trivial⟩⟩⟩⟩⟩) (by first | trivial | (simp only [NamelessL, Nameless, and_self, and_true, true_and]; done) | (simp [NamelessL, Nameless, u32s_nameless, namelessL_ints]; done)) (by first | trivial | (simp only [NamelessL, Nameless, and_self, and_true, true_and]; done) | (simp [NamelessL, Nameless, u32s_nameless, namelessL_ints]; done)) ?_
  refine of_eq (B := letI z8 := (D.v (Value.int IntKind.i64 (mkI c))); letI z2 := (True ∧ (True ∧ (True ∧ ((D.v (Value.int IntKind.i64 (-(1 : Int)))) = z8)))); letI z4 := (((ByteArray.size (Utf8.encode c)) : Nat) : Int); letI z1 := (IntKind.wrap IntKind.i64 (z4 - (1 : Int))); letI z9 := (((0 : Int) ≤ z1) ∧ (z1 < z4)); letI z11 := Bool.true = Bool.true; letI z7 := (Array.toList (ByteArray.data marks)); letI z3 := (((UInt8.toNat (List.getD (Array.toList (ByteArray.data (Utf8.encode c))) (Int.toNat z1) (0 : UInt8))) : Nat) : Int); letI z5 := (IntKind.wrap IntKind.i64 (z1 + (1 : Int))); letI z10 := (BitVec.ofNat._proof_1 (8 : Nat)); letI z0 := (True ∧ (True ∧ (True ∧ (pcond (c == (65533 : Int)) (True ∧ (True ∧ (True ∧ (True ∧ (True ∧ (True ∧ (True ∧ (True ∧ (True ∧ (True ∧ (True ∧ (True ∧ (True ∧ (True ∧ (True ∧ (True ∧ (True ∧ (True ∧ (True ∧ (True ∧ (True ∧ (True ∧ (True ∧ (True ∧ (True ∧ (True ∧ (True ∧ (True ∧ (True ∧ (True ∧ (True ∧ (True ∧ (True ∧ (True ∧ (True ∧ (True ∧ (True ∧ (True ∧ (True ∧ (True ∧ (True ∧ (True ∧ (True ∧ (True ∧ (True ∧ z2))))))))))))))))))))))))))))))))))))))))))))) (True ∧ (True ∧ (True ∧ (True ∧ (pcond (!(Utf8.valid c)) z2 (True ∧ (True ∧ (True ∧ (True ∧ (True ∧ (True ∧ (True ∧ (True ∧ (True ∧ (True ∧ (True ∧ (True ∧ (True ∧ (True ∧ (pcond (Decidable.decide (z1 < (6 : Int))) (True ∧ (True ∧ ((((0 : Int) ≤ z1) ∧ (z1 < (6 : Int))) ∧ (True ∧ (True ∧ (z9 ∧ (True ∧ (z11 ∧ (pcond ((((UInt8.toNat (List.getD z7 (Int.toNat z1) (0 : UInt8))) : Nat) : Int) != z3) (True ∧ (True ∧ (True ∧ (((((0 : Int) ≤ z5) ∧ (z5 ≤ (6 : Int))) ∧ (True ∧ True)) ∧ (True ∧ (True ∧ (z9 ∧ (True ∧ (True ∧ (z11 ∧ (True ∧ (True ∧ (pcond (Decidable.decide ((Lib.indexByte (Array.toList (ByteArray.data (ByteArray.extract marks (Int.toNat z5) (6 : Nat)))) (UInt8.ofBitVec (BitVec.ofFin (Fin.mk ((Int.toNat z3) % (256 : Nat)) (Nat.mod_lt (Int.toNat z3) z10))))) < (0 : Int))) z2 (True ∧ (True ∧ (True ∧ (True ∧ (True ∧ (True ∧ False))))))))))))))))))) (True ∧ False)))))))))) z2)))))))))))))))))))))))); letI z6 := (Int.toNat (IntKind.wrap IntKind.u8 c)); (True ∧ (True ∧ (True ∧ (True ∧ (pcond (Decidable.decide ((0 : Int) ≤ c)) (True ∧ (True ∧ (True ∧ (True ∧ (pcond (Decidable.decide (c < (128 : Int))) (True ∧ (True ∧ (True ∧ (True ∧ (True ∧ (True ∧ (True ∧ ((D.v (Value.int IntKind.i64 (Lib.indexByte z7 (UInt8.ofBitVec (BitVec.ofFin (Fin.mk (z6 % (256 : Nat)) (Nat.mod_lt z6 z10))))))) = z8)))))))) z0))))) (True ∧ (True ∧ z0)))))))) (by kernel_rfl) ?_
  simp only [true_and, and_true, and_self, IsInt_lit, IsBool_lit, IsStr_lit, IsSl_lit, cellN_lit, cellL_lit, Bool.not_eq_true', Bool.not_eq_false', Bool.not_true, Bool.not_false, Int.reduceLE, Int.reduceLT, Int.reduceNeg, Nat.le_refl, Int.le_refl, Nat.reduceLT, Nat.reduceLeDiff, Nat.reduceEqDiff, D.v.injEq, D.tup.injEq, D.agg.injEq, D.ro.injEq, List.cons.injEq, Value.int.injEq, Value.bool.injEq, pcond_true, pcond_false, NamelessL, Nameless, Nat.reduceMul, Nat.reduceAdd, Nat.zero_add, Int.toNat_natCast]
  obtain ⟨h0, h1⟩ := hpre
  rw [decide_eq_true h0, pcond_true]
  have hw : c < 128 → IntKind.u8.wrap c = c := fun h => by rw [wrap_u8]; omega
  refine pcond_intro (fun h => ?_) (fun h => ?_)
  · simp only [decide_eq_true_eq] at h
    rw [mkI, if_pos h, hw h]
    rfl
  · simp only [decide_eq_false_iff_not] at h
    rw [mkI, if_neg h]
    refine pcond_intro (fun _ => rfl) (fun _ => pcond_intro (fun _ => rfl) (fun hv => ?_))
    simp only [Bool.not_eq_false'] at hv
    obtain ⟨n1, n2, nb⟩ := enc_high (by omega) hv
    generalize Utf8.encode c = t at *
    have w1 : IntKind.i64.wrap ((t.size : Int) - 1) = ((t.size - 1 : Nat) : Int) := by rw [wrap_i64_of (by omega) (by omega)]; omega
    have w2 : IntKind.i64.wrap (((t.size - 1 : Nat) : Int) + 1) = ((t.size : Nat) : Int) := by rw [wrap_i64_of (by omega) (by omega)]; omega
    have hb := nb (t.size - 1) (by omega)
    simp only [w1, w2, Int.toNat_natCast]
    refine pcond_intro (fun h2 => ⟨⟨by omega, by omega⟩, ⟨by omega, by omega⟩, pcond_intro (fun h3 => ⟨⟨by omega, by omega⟩, ⟨by omega, by omega⟩, pcond_intro (fun _ => trivial) (fun h4 => ?_)⟩) (fun h3 => ?_)⟩) (fun _ => trivial)
    · simp only [decide_eq_false_iff_not] at h4
      refine h4 ?_
      have hm : ∀ x ∈ (marks.extract t.size 6).data.toList, x.toNat < 128 := by
        have : t.size = 2 ∨ t.size = 3 ∨ t.size = 4 := by omega
        rcases this with e | e | e <;> rw [e] <;> decide
      rw [idx_none _ _ fun x hx e => ?_]
      · decide
      · have h7 := hm x hx
        rw [e] at h7
        have h8 : (t.data.toList.getD (t.size - 1) 0).toNat % 256 < 128 := h7
        have h9 := (t.data.toList.getD (t.size - 1) 0).toNat_lt
        omega
    · have h5 : (marks.data.toList.getD (t.size - 1) 0).toNat = (t.data.toList.getD (t.size - 1) 0).toNat := by
        simp only [bne_eq_false_iff_eq] at h3; omega
      have h6 : (marks.data.toList.getD (t.size - 1) 0).toNat < 128 := by
        have : t.size - 1 = 1 ∨ t.size - 1 = 2 ∨ t.size - 1 = 3 := by omega
        rcases this with e | e | e <;> rw [e] <;> decide
      omega
def ent_iRune : Ent := fun ds => match ds with
  | [.v (.string m), .v (.int .i32 c)] => some (.v (.int .i64 (mkI c)), m = marks ∧ 0 ≤ c ∧ c < 2147483648)
  | _ => none
theorem ent_iRune_ok : EntOk Try.prog 62 ent_iRune := by
  intro ds d c h hc; unfold ent_iRune at h; split at h
  · obtain ⟨rfl, rfl⟩ := pair_inj h
    obtain ⟨rfl, hc⟩ := hc
    exact iRune_pure _ hc
  · cases h
theorem cRune_pure (c : Int) (hpre : 0 ≤ c ∧ c < 2147483648) : PureJ Try.prog 56 [.v (.string marks), .v (.int .i32 c)] (.v (.bool (decide (0 ≤ mkI c)))) := by
  refine pureJ_of_vcx (call := (addPure 62 ent_iRune noCalls)) (lp := fun _ => none) (N := 10) T_ok mixed (addPure_ok ent_iRune_ok noCalls_ok) Try.func56 rfl (by decide) (by kernel_rfl) (by kernel_rfl) (LpAll.none _) (by first | trivial | (simp only [NamelessL, Nameless, and_self, and_true, true_and]; done) | (simp [NamelessL, Nameless, u32s_nameless, namelessL_ints]; done)) (by first | trivial | (simp only [NamelessL, Nameless, and_self, and_true, true_and]; done) | (simp [NamelessL, Nameless, u32s_nameless, namelessL_ints]; done)) ?_
  refine of_eq (B := letI z0 := (D.v (Value.bool (Decidable.decide ((0 : Int) ≤ (mkI c))))); (True ∧ (True ∧ (True ∧ (((marks = marks) ∧ (((0 : Int) ≤ c) ∧ (c < (2147483648 : Int)))) ∧ (True ∧ (True ∧ (True ∧ (True ∧ (z0 = z0)))))))))) (by kernel_rfl) ?_
  simp only [true_and, and_true, and_self, IsInt_lit, IsBool_lit, IsStr_lit, IsSl_lit, cellN_lit, cellL_lit, Bool.not_eq_true', Bool.not_eq_false', Bool.not_true, Bool.not_false, Int.reduceLE, Int.reduceLT, Int.reduceNeg, Nat.le_refl, Int.le_refl, Nat.reduceLT, Nat.reduceLeDiff, Nat.reduceEqDiff, D.v.injEq, D.tup.injEq, D.agg.injEq, D.ro.injEq, List.cons.injEq, Value.int.injEq, Value.bool.injEq, pcond_true, pcond_false, NamelessL, Nameless, Nat.reduceMul, Nat.reduceAdd, Nat.zero_add, Int.toNat_natCast]
  exact hpre
def ent_cRune : Ent := fun ds => match ds with
  | [.v (.string m), .v (.int .i32 c)] => some (.v (.bool (decide (0 ≤ mkI c))), m = marks ∧ 0 ≤ c ∧ c < 2147483648)
  | _ => none
theorem ent_cRune_ok : EntOk Try.prog 56 ent_cRune := by
  intro ds d c h hc; unfold ent_cRune at h; split at h
  · obtain ⟨rfl, rfl⟩ := pair_inj h
    obtain ⟨rfl, hc⟩ := hc
    exact cRune_pure _ hc
  · cases h
def letI' (c : Int) : Bool := (decide (65 ≤ c) && decide (c ≤ 90)) || (decide (97 ≤ c) && decide (c ≤ 122))
theorem isLetter_pure (c : Int) : PureJ Try.prog 35 [.v (.int .i32 c)] (.v (.bool (letI' c))) := by
  refine pureJ_of_vcx (call := noCalls) (lp := fun _ => none) (N := 10) T_ok mixed noCalls_ok Try.func35 rfl (by decide) (by kernel_rfl) (by kernel_rfl) (LpAll.none _) (by first | trivial | (simp only [NamelessL, Nameless, and_self, and_true, true_and]; done) | (simp [NamelessL, Nameless, u32s_nameless, namelessL_ints]; done)) (by first | trivial | (simp only [NamelessL, Nameless, and_self, and_true, true_and]; done) | (simp [NamelessL, Nameless, u32s_nameless, namelessL_ints]; done)) ?_
  refine of_eq (B := (True ∧ (True ∧ (True ∧ (True ∧ (pcond (Decidable.decide ((65 : Int) ≤ c)) (True ∧ (True ∧ (True ∧ (True ∧ (pcond (Decidable.decide (c ≤ (90 : Int))) ((([] : List Value) = ([] : List Value)) ∧ ((([] : List Value) = ([] : List Value)) ∧ (True ∧ (True ∧ (True ∧ (True ∧ ((D.v (Value.bool Bool.true)) = (D.v (Value.bool (letI' c)))))))))) (True ∧ (True ∧ (True ∧ (pcond (Decidable.decide ((97 : Int) ≤ c)) (True ∧ (True ∧ (True ∧ (True ∧ (True ∧ (True ∧ (True ∧ ((D.v (Value.bool (Decidable.decide (c ≤ (122 : Int))))) = (D.v (Value.bool (letI' c))))))))))) (True ∧ (True ∧ (True ∧ (True ∧ (True ∧ ((D.v (Value.bool Bool.false)) = (D.v (Value.bool (letI' c)))))))))))))))))) (True ∧ (True ∧ (True ∧ (True ∧ (True ∧ (pcond (Decidable.decide ((97 : Int) ≤ c)) (True ∧ (True ∧ (True ∧ (True ∧ (True ∧ (True ∧ (True ∧ ((D.v (Value.bool (Decidable.decide (c ≤ (122 : Int))))) = (D.v (Value.bool (letI' c))))))))))) (True ∧ (True ∧ (True ∧ (True ∧ (True ∧ ((D.v (Value.bool Bool.false)) = (D.v (Value.bool (letI' c))))))))))))))))))))) (by kernel_rfl) ?_
  simp only [true_and, and_true, and_self, IsInt_lit, IsBool_lit, IsStr_lit, IsSl_lit, cellN_lit, cellL_lit, Bool.not_eq_true', Bool.not_eq_false', Bool.not_true, Bool.not_false, Int.reduceLE, Int.reduceLT, Int.reduceNeg, Nat.le_refl, Int.le_refl, Nat.reduceLT, Nat.reduceLeDiff, Nat.reduceEqDiff, D.v.injEq, D.tup.injEq, D.agg.injEq, D.ro.injEq, List.cons.injEq, Value.int.injEq, Value.bool.injEq, pcond_true, pcond_false, NamelessL, Nameless, Nat.reduceMul, Nat.reduceAdd, Nat.zero_add, Int.toNat_natCast]
  unfold letI'
  cases decide (65 ≤ c) <;> cases decide (c ≤ 90) <;> cases decide (97 ≤ c) <;> cases decide (c ≤ 122) <;> simp [pcond]
def ent_isLetter : Ent := fun ds => match ds with
  | [.v (.int .i32 c)] => some (.v (.bool (letI' c)), True)
  | _ => none
theorem ent_isLetter_ok : EntOk Try.prog 35 ent_isLetter := by
  intro ds d c h hc; unfold ent_isLetter at h; split at h
  · obtain ⟨rfl, rfl⟩ := pair_inj h; exact isLetter_pure _
  · cases h
theorem isPlain_pure (c : Int) (hpre : 0 ≤ c ∧ c < 2147483648) : PureJ Try.prog 47 [.v (.int .i32 c)] (.v (.bool (letI' c || ((decide (48 ≤ c) && decide (c ≤ 57)) || decide (0 ≤ mkI c))))) := by
  refine pureJ_of_vcx (call := (addPure 35 ent_isLetter (addPure 55 ent_isDigit (addPure 56 ent_cRune noCalls)))) (lp := fun _ => none) (N := 10) T_ok mixed (addPure_ok ent_isLetter_ok (addPure_ok ent_isDigit_ok (addPure_ok ent_cRune_ok noCalls_ok))) Try.func47 rfl (by decide) (by kernel_rfl) (by kernel_rfl) (LpAll.none _) (by first | trivial | (simp only [NamelessL, Nameless, and_self, and_true, true_and]; done) | (simp [NamelessL, Nameless, u32s_nameless, namelessL_ints]; done)) (by first | trivial | (simp only [NamelessL, Nameless, and_self, and_true, true_and]; done) | (simp [NamelessL, Nameless, u32s_nameless, namelessL_ints]; done)) ?_
  refine of_eq (B := (True ∧ (True ∧ (True ∧ (True ∧ (pcond (letI' c) (True ∧ (True ∧ (True ∧ (True ∧ (True ∧ (True ∧ ((D.v (Value.bool Bool.true)) = (D.v (Value.bool ((letI' c) || (((Decidable.decide ((48 : Int) ≤ c)) && (Decidable.decide (c ≤ (57 : Int)))) || (Decidable.decide ((0 : Int) ≤ (mkI c)))))))))))))) (True ∧ (True ∧ (True ∧ (True ∧ (pcond ((Decidable.decide ((48 : Int) ≤ c)) && (Decidable.decide (c ≤ (57 : Int)))) (True ∧ (True ∧ (True ∧ (True ∧ ((D.v (Value.bool Bool.true)) = (D.v (Value.bool ((letI' c) || (((Decidable.decide ((48 : Int) ≤ c)) && (Decidable.decide (c ≤ (57 : Int)))) || (Decidable.decide ((0 : Int) ≤ (mkI c)))))))))))) (True ∧ ((((ByteArray.mk (Array.mk [(95 : UInt8), (45 : UInt8), (43 : UInt8), (46 : UInt8), (47 : UInt8), (58 : UInt8)])) = marks) ∧ (((0 : Int) ≤ c) ∧ (c < (2147483648 : Int)))) ∧ (True ∧ (True ∧ (True ∧ (True ∧ ((D.v (Value.bool (Decidable.decide ((0 : Int) ≤ (mkI c))))) = (D.v (Value.bool ((letI' c) || (((Decidable.decide ((48 : Int) ≤ c)) && (Decidable.decide (c ≤ (57 : Int)))) || (Decidable.decide ((0 : Int) ≤ (mkI c))))))))))))))))))))))))) (by kernel_rfl) ?_
  simp only [true_and, and_true, and_self, IsInt_lit, IsBool_lit, IsStr_lit, IsSl_lit, cellN_lit, cellL_lit, Bool.not_eq_true', Bool.not_eq_false', Bool.not_true, Bool.not_false, Int.reduceLE, Int.reduceLT, Int.reduceNeg, Nat.le_refl, Int.le_refl, Nat.reduceLT, Nat.reduceLeDiff, Nat.reduceEqDiff, D.v.injEq, D.tup.injEq, D.agg.injEq, D.ro.injEq, List.cons.injEq, Value.int.injEq, Value.bool.injEq, pcond_true, pcond_false, NamelessL, Nameless, Nat.reduceMul, Nat.reduceAdd, Nat.zero_add, Int.toNat_natCast]
  generalize letI' c = a
  cases a <;> cases decide (48 ≤ c) <;> cases decide (c ≤ 57) <;> simp [pcond, hpre, marks]
def ent_isPlain : Ent := fun ds => match ds with
  | [.v (.int .i32 c)] => some (.v (.bool (letI' c || ((decide (48 ≤ c) && decide (c ≤ 57)) || decide (0 ≤ mkI c)))), 0 ≤ c ∧ c < 2147483648)
  | _ => none
theorem ent_isPlain_ok : EntOk Try.prog 47 ent_isPlain := by
  intro ds d c h hc; unfold ent_isPlain at h; split at h
  · obtain ⟨rfl, rfl⟩ := pair_inj h; exact isPlain_pure _ hc
  · cases h
end Go.Proofs.Ytahiigfpikohgaa
end
