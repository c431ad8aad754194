/- Calls that change one of the caller's blocks; loops of functions that are no pure functions. -/
import Derived.Test.YthnhfkpihbjddaaEc
namespace Go.VD
set_option linter.unusedVariables false
set_option linter.unusedSimpArgs false

theorem RdL.moveN {ρ ρ' : Nat → Nat × Nat} {S : Nat → Prop} {w : World} {H H' : Heap} {ds : List D} {us : List Value} (hn : NamelessL ds) (h : RdL (ctx ρ S w H) ds us) : RdL (ctx ρ' S w H') ds us :=
  RdL.nameless (E := ctx ρ S w H) (E' := ctx ρ' S w H') (fun _ h => h) (fun _ _ => rfl) ds us hn h
/-- what a call does to a block that is the caller's only one, it does to any -/
theorem CallJ.frameAt {P : Program} {f : FuncId} {off n : Nat} {c : Cap} {plain : List D} {blk blk' : Blk} {d : D} (h : CallJ P f (.sl 0 off n c :: plain) [some blk] d [some blk']) (hpl : NamelessL plain) (hd : Nameless d) (hc : NamelessL blk.cs) (hc' : NamelessL blk'.cs)
    {H : Heap} {b : Nat} (hb : H[b]? = some (some blk)) : CallJ P f (.sl b off n c :: plain) H d (H.set b (some blk')) := by
  have hbl : b < H.length := (List.getElem?_eq_some_iff.1 hb).1
  refine ⟨h.1, fun ρ S w vals hS hv => ?_⟩
  have live1 : ∀ k, Live (fun _ => ρ b) [some blk] k → 0 < (ρ b).2 ∧ (ρ b).1 = k := by
    rintro k ⟨i, bl, hi, hz, e⟩
    exact ⟨hz, e⟩
  have live1H : ∀ k, Live (fun _ => ρ b) [some blk] k → Live ρ H k := fun k hk => ⟨b, blk, hb, (live1 k hk).1, (live1 k hk).2⟩
  have hS1 : St (fun _ => ρ b) S w [some blk] := by
    refine ⟨fun k hk => ⟨(hS.sub k hk).1, fun hl => (hS.sub k hk).2 (live1H k hl)⟩, fun i bl hi hz => ?_, fun i bl hi hz => ?_, fun i j bi bj hi hj _ _ _ => ?_, hS.glob⟩
    · cases i with
      | zero => simp at hi; subst hi; exact hS.none b _ hb hz
      | succ i => simp at hi
    · cases i with
      | zero =>
        simp at hi; subst hi
        obtain ⟨cur, hcur⟩ := hS.blk b _ hb hz
        exact ⟨cur, hcur.heap, hcur.size, RdL.moveN hc hcur.pre, hcur.full⟩
      | succ i => simp at hi
    · cases i with
      | zero => cases j with
        | zero => rfl
        | succ j => simp at hj
      | succ i => simp at hi
  have hv1 : RdT (ctx (fun _ => ρ b) S w [some blk]) (.sl 0 off n c :: plain) vals := by
    simp only [RdT] at hv ⊢
    obtain ⟨u, r, e, h1, h2⟩ := hv
    refine ⟨u, r, e, ?_, RdT.move hpl h2⟩
    cases c <;> simp only [Rd] at h1 ⊢ <;> exact ⟨by simp, h1.2⟩
  refine (h.2 _ S w vals hS1 hv1).mono fun e w' ⟨v, ρ', S', he, hS', hle, hr⟩ => ?_
  have e0 : ρ' 0 = ρ b := hle.ρ 0 (by simp)
  have live' : ∀ k, Live ρ (H.set b (some blk')) k → (0 < (ρ b).2 ∧ (ρ b).1 = k) ∨ ∃ i bl, i ≠ b ∧ H[i]? = some (some bl) ∧ 0 < (ρ i).2 ∧ (ρ i).1 = k := by
    rintro k ⟨i, bl, hi, hz, e⟩
    by_cases hib : b = i
    · subst hib; exact .inl ⟨hz, e⟩
    · rw [List.getElem?_set_ne hib] at hi
      exact .inr ⟨i, bl, fun e => hib e.symm, hi, hz, e⟩
  have live2 : ∀ k, (0 < (ρ b).2 ∧ (ρ b).1 = k) → Live ρ' [some blk'] k := fun k hk => ⟨0, blk', by simp, by rw [e0]; exact hk.1, by rw [e0]; exact hk.2⟩
  have hle2 : (ctx ρ S w H).le (ctx ρ S' w' (H.set b (some blk'))) := by
    refine ⟨by simp, fun _ _ => rfl, hle.S, hle.keep, fun k hk => ?_, fun k hk => ⟨Nat.lt_of_lt_of_le hk.1 hle.size, fun hl => ?_⟩, fun k hk => hle.heap k ⟨hk.1, fun hl => hk.2 (live1H k hl)⟩, hle.size, hle.os, hle.tape, hle.output⟩
    · rcases hle.new k hk with h | h | h
      · exact .inl h
      · exact .inr (.inl (live1H k h))
      · exact .inr (.inr h)
    · rcases live' k hl with h | ⟨i, bl, _, hi, hz, e⟩
      · exact hk.2 ⟨b, blk, hb, h.1, h.2⟩
      · exact hk.2 ⟨i, bl, hi, hz, e⟩
  refine ⟨v, ρ, S', he, ⟨fun k hk => ⟨(hS'.sub k hk).1, fun hl => ?_⟩, fun i bl hi hz => ?_, fun i bl hi hz => ?_, fun i j bi bj hi hj hz hz' e => ?_, hS'.glob⟩, hle2, Rd.move hd hr⟩
  · rcases live' k hl with h | ⟨i, bl, hib, hi, hz, e⟩
    · exact (hS'.sub k hk).2 (live2 k h)
    · rcases hle.new k hk with h | h | h
      · exact (hS.sub k h).2 ⟨i, bl, hi, hz, e⟩
      · obtain ⟨hz1, e1⟩ := live1 k h
        exact hib (hS.inj i b _ _ hi hb hz hz1 (e.trans e1.symm))
      · have := hS.lt ⟨i, bl, hi, hz, e⟩; simp only [ctx] at *; omega
  · by_cases hib : b = i
    · subst hib
      rw [List.getElem?_set_self hbl] at hi
      injection hi with hi; injection hi with hi; subst hi
      exact hS'.none 0 blk' (by simp) (by rw [e0]; exact hz)
    · rw [List.getElem?_set_ne hib] at hi; exact hS.none i bl hi hz
  · by_cases hib : b = i
    · subst hib
      rw [List.getElem?_set_self hbl] at hi
      injection hi with hi; injection hi with hi; subst hi
      obtain ⟨cur, hcur⟩ := hS'.blk 0 blk' (by simp) (by rw [e0]; exact hz)
      have hh := hcur.heap
      have hs := hcur.size
      rw [e0] at hh hs
      exact ⟨cur, hh, hs, RdL.moveN hc' hcur.pre, hcur.full⟩
    · rw [List.getElem?_set_ne hib] at hi
      obtain ⟨cur, hcur⟩ := hS.blk i bl hi hz
      refine ⟨cur, hcur.heap.of (hle.heap _ ⟨hcur.lt, fun hl => ?_⟩), hcur.size, hcur.pre.mono hle2 _ _, hcur.full⟩
      obtain ⟨hz1, e1⟩ := live1 _ hl
      exact hib (hS.inj b i _ _ hb hi hz1 hz e1)
  · have back : ∀ i bi, (H.set b (some blk'))[i]? = some (some bi) → ∃ bl, H[i]? = some (some bl) := fun i bi hi => by
      by_cases hib : b = i
      · subst hib; exact ⟨blk, hb⟩
      · rw [List.getElem?_set_ne hib] at hi; exact ⟨bi, hi⟩
    obtain ⟨x, hx⟩ := back i bi hi
    obtain ⟨y, hy⟩ := back j bj hj
    exact hS.inj i j x y hx hy hz hz' e

/-- a function that changes the block of its first argument: given the slice, the other arguments and the block: the answer, the block behind the call, the condition -/
abbrev EntM := Nat → Nat → Cap → List D → Blk → Option (D × Blk × Prop)
structure MutJ (P : Program) (g : FuncId) (off n : Nat) (c : Cap) (plain : List D) (blk : Blk) (d : D) (blk' : Blk) : Prop where
  call : CallJ P g (.sl 0 off n c :: plain) [some blk] d [some blk']
  plain : NamelessL plain
  res : Nameless d
  cs : NamelessL blk.cs
  cs' : NamelessL blk'.cs
def EntMOk (P : Program) (g : FuncId) (e : EntM) : Prop := ∀ off n c plain blk d blk' p, e off n c plain blk = some (d, blk', p) → p → MutJ P g off n c plain blk d blk'
def addMut (f : FuncId) (e : EntM) (r : CallO) : CallO := fun g ds H K => bif Nat.beq g f then (match ds with
  | .sl b off n c :: plain => match blkAt H b with
    | some blk => match e off n c plain blk with
      | some (d, blk', p) => some (p ∧ K d (H.set b (some blk')) .al)
      | none => none
    | none => none
  | _ => none) else r g ds H K
theorem addMut_ok {P : Program} {f : FuncId} {e : EntM} {r : CallO} (he : EntMOk P f e) (hr : CallOK P r) : CallOK P (addMut f e r) := by
  intro g ds H K p h hp
  unfold addMut at h
  cases hg : Nat.beq g f with
  | false => rw [hg] at h; exact hr g ds H K p h hp
  | true =>
    rw [hg] at h
    have hgf : g = f := Nat.eq_of_beq_eq_true hg
    subst hgf
    simp only [cond_true] at h
    split at h
    · rename_i b off n c plain
      split at h
      · rename_i blk hblk
        split at h
        · rename_i d blk' q hq
          injection h with h; subst h
          have hm := he _ _ _ _ _ _ _ _ hq hp.1
          exact .own d _ (hm.call.frameAt hm.plain hm.res hm.cs hm.cs' (blkAt_some hblk)) hp.2
        · cases h
      · cases h
    · cases h

/-- a loop whose rounds leave the blocks where they are -/
def loopRuleD {α β : Type} (J : α → Prop) (I : α → Env) (HI : α → Heap) (x0 : α) (R : β → Prop) (E : β → Exit × Env × Heap) : LoopO :=
  fun env H Q => J x0 ∧ Has env (I x0) ∧ H = HI x0 ∧ ∀ r, R r → Q (E r).1 (E r).2.1 (E r).2.2
def roundQD {α β : Type} (J : α → Prop) (I : α → Env) (HI : α → Heap) (μ : α → Nat) (R : β → Prop) (E : β → Exit × Env × Heap) (x : α) : Exit → Env → Heap → Prop
  | .normal, env', H' => ∃ y : α, μ y < μ x ∧ J y ∧ Has env' (I y) ∧ H' = HI y
  | e, env', H' => ∃ r : β, R r ∧ e = (E r).1 ∧ Has env' (E r).2.1 ∧ H' = (E r).2.2
theorem lruleD_of {P : Program} {T : Tbl} (hT : TblOk P T) {nt N : Nat} {call : CallO} {lp : Nat → Option LoopO} (hm : P.follows .mixedOrders = true) (hc : CallOK P call) {α β : Type} {J : α → Prop} {I : α → Env} {HI : α → Heap} (μ : α → Nat) {x0 : α} {R : β → Prop} {E : β → Exit × Env × Heap} {c : Code}
    (hok : codeOk nt c = true) (hl : LpAll P nt lp (loopsOf c)) (round : ∀ x, J x → vcx P call lp T N c (roundQD J I HI μ R E x) (I x) (HI x)) : LRule P nt c (loopRuleD J I HI x0 R E) := by
  rintro env H Q ⟨h0, hh, hH, hq⟩
  refine DW.loop J I HI μ x0 h0 hh hH fun x hx => ?_
  intro ρ S w a hi
  refine wp_mono (vcx_sound hT hm hc c _ _ _ hok hl (round x hx) ρ S w a hi) fun e a' w' ⟨env', H', ρ', S', h1, h2, h3⟩ => ?_
  cases e with
  | normal => exact ⟨env', H', ρ', S', h1, h2, h3⟩
  | _ =>
    obtain ⟨r, g1, g2, g3, g4⟩ := h1
    refine ⟨(E r).2.1, (E r).2.2, ρ', S', ?_, by rw [← g4]; exact h2.sub g3, by rw [← g4]; exact h3⟩
    have := hq r g1
    rw [← g2] at this
    exact this
/-- from a body's conditions to what it does to the block of its first argument -/
theorem mutJ_of_vcx {P : Program} {T : Tbl} (hT : TblOk P T) {N : Nat} {call : CallO} {lp : Nat → Option LoopO} (hm : P.follows .mixedOrders = true) (hc : CallOK P call) {f : FuncId} {fn : Func} {c : Code} {off n : Nat} {cp : Cap} {plain : List D} {blk blk' : Blk} {d : D} (hf : P.funcs[f]? = some fn) (hb : fn.body = some c)
    (hname : (fn.name == "runtime.NumGoroutine") = false) (hok : codeOk fn.ntmps c = true) (hlen : decide ((.sl 0 off n cp :: plain).length ≤ fn.ntmps) = true) (hl : LpAll P fn.ntmps lp (loopsOf c)) (h1 : NamelessL plain) (h2 : Nameless d) (h3 : NamelessL blk.cs) (h4 : NamelessL blk'.cs)
    (h : vcx P call lp T N c (retQ T fn.results.toList fun d1 H1 => d1 = d ∧ H1 = [some blk']) (envOf 0 (.sl 0 off n cp :: plain)) [some blk]) : MutJ P f off n cp plain blk d blk' := by
  refine ⟨callJ_of_dw hT hf hb hname (by simpa using hlen) ((vcx_sound hT hm hc c _ _ _ hok hl h).mono fun e env H h => ?_), h1, h2, h3, h4⟩
  cases e <;> simp only [retQ] at h ⊢
  all_goals first
    | exact h.elim
    | (split at h
       · obtain ⟨g1, rfl, rfl⟩ := h
         exact ⟨g1, fin_same⟩
       · exact h.elim)
end Go.VD
