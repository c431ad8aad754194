/- Scopes in which the run jumps back to one label. -/
import Derived.Test.YthnhfkpihbjddaaVw
import Derived.ScopeJumps
namespace Go.VD
set_option linter.unusedVariables false
set_option linter.unusedSimpArgs false

theorem exists_min {p : Nat → Prop} (h : ∃ n, p n) : ∃ n, p n ∧ ∀ m, p m → n ≤ m := by
  obtain ⟨n, hn⟩ := h
  induction n using Nat.strongRecOn with
  | _ n ih =>
    by_cases hm : ∃ m, m < n ∧ p m
    · obtain ⟨m, h1, h2⟩ := hm
      exact ih m h1 h2
    · exact ⟨n, hn, fun m h2 => Nat.le_of_not_lt fun h1 => hm ⟨m, h1, h2⟩⟩
open Classical in
theorem wp_scope_ghost {P : Program} {a : Act} {w : World} {Q : Exit → Act → World → Prop} {c rest : Code} (l : Nat) (J : Nat → Act → World → Prop) (hf : findLabel c l = some rest)
    (first : c.wp P (Exit.jump l (fun a w => ∃ n, J n a w) Q) a w)
    (pass : ∀ n a w, J n a w → rest.wp P (Exit.jump l (fun a' w' => ∃ m, m < n ∧ J m a' w') Q) a w) : (Code.scope c).wp P Q a w := by
  let μ : Act → World → Nat := fun a w => if h : ∃ n, J n a w then Classical.choose (exists_min h) else 0
  refine wp_scope_jumps l (fun a w => ∃ n, J n a w) μ hf first fun a w hJ => ?_
  have hs := Classical.choose_spec (exists_min hJ)
  have hμ : μ a w = Classical.choose (exists_min hJ) := dif_pos hJ
  refine wp_mono (pass _ a w hs.1) fun e a' w' he => ?_
  cases e with
  | goto l' =>
    obtain ⟨rfl, m, hm, hJm⟩ := he
    have h' : ∃ n, J n a' w' := ⟨m, hJm⟩
    refine ⟨rfl, h', ?_⟩
    have h2 := (Classical.choose_spec (exists_min h')).2 m hJm
    have h3 : μ a' w' = Classical.choose (exists_min h') := dif_pos h'
    show μ a' w' < μ a w
    rw [hμ, h3]
    omega
  | _ => exact he

def jumpQ (l : Nat) (J : Env → Heap → Prop) (Q : Exit → Env → Heap → Prop) : Exit → Env → Heap → Prop
  | .goto l', env, H => l' = l ∧ J env H
  | e, env, H => Q e env H

theorem RdL.moveZ {ρ ρ' : Nat → Nat × Nat} {S : Nat → Prop} {w : World} {H H' : Heap} {ds : List D} {us : List Value} (hn : NamelessL ds) (h : RdL (ctx ρ S w H) ds us) : RdL (ctx ρ' S w H') ds us :=
  RdL.nameless (E := ctx ρ S w H) (E' := ctx ρ' S w H') (fun _ h => h) (fun _ _ => rfl) ds us hn h
/-- what a call does to a block that is the caller's only one, it does to any -/
theorem CallJ.framePtr {P : Program} {f : FuncId} {off : Nat} {plain : List D} {blk blk' : Blk} {d : D} (h : CallJ P f (.ptr 0 off :: plain) [some blk] d [some blk']) (hpl : NamelessL plain) (hd : Nameless d) (hc : NamelessL blk.cs) (hc' : NamelessL blk'.cs)
    {H : Heap} {b : Nat} (hb : H[b]? = some (some blk)) : CallJ P f (.ptr b off :: plain) H d (H.set b (some blk')) := by
  have hbl : b < H.length := (List.getElem?_eq_some_iff.1 hb).1
  refine ⟨h.1, fun ρ S w vals hS hv => ?_⟩
  have live1 : ∀ k, Live (fun _ => ρ b) [some blk] k → 0 < (ρ b).2 ∧ (ρ b).1 = k := by
    rintro k ⟨i, bl, hi, hz, e⟩
    exact ⟨hz, e⟩
  have live1H : ∀ k, Live (fun _ => ρ b) [some blk] k → Live ρ H k := fun k hk => ⟨b, blk, hb, (live1 k hk).1, (live1 k hk).2⟩
  have hS1 : St (fun _ => ρ b) S w [some blk] := by
    refine ⟨fun k hk => ⟨(hS.sub k hk).1, fun hl => (hS.sub k hk).2 (live1H k hl)⟩, fun i bl hi hz => ?_, fun i bl hi hz => ?_, fun i j bi bj hi hj _ _ _ => ?_, hS.glob⟩
    · cases i with
      | zero => simp at hi; subst hi; exact hS.none b _ hb hz
      | succ i => simp at hi
    · cases i with
      | zero =>
        simp at hi; subst hi
        obtain ⟨cur, hcur⟩ := hS.blk b _ hb hz
        exact ⟨cur, hcur.heap, hcur.size, RdL.moveZ hc hcur.pre, hcur.full⟩
      | succ i => simp at hi
    · cases i with
      | zero => cases j with
        | zero => rfl
        | succ j => simp at hj
      | succ i => simp at hi
  have hv1 : RdT (ctx (fun _ => ρ b) S w [some blk]) (.ptr 0 off :: plain) vals := by
    simp only [RdT] at hv ⊢
    obtain ⟨u, r, e, h1, h2⟩ := hv
    refine ⟨u, r, e, ?_, RdT.move hpl h2⟩
    simp only [Rd] at h1 ⊢; exact ⟨by simp, h1.2⟩
  refine (h.2 _ S w vals hS1 hv1).mono fun e w' ⟨v, ρ', S', he, hS', hle, hr⟩ => ?_
  have e0 : ρ' 0 = ρ b := hle.ρ 0 (by simp)
  have live' : ∀ k, Live ρ (H.set b (some blk')) k → (0 < (ρ b).2 ∧ (ρ b).1 = k) ∨ ∃ i bl, i ≠ b ∧ H[i]? = some (some bl) ∧ 0 < (ρ i).2 ∧ (ρ i).1 = k := by
    rintro k ⟨i, bl, hi, hz, e⟩
    by_cases hib : b = i
    · subst hib; exact .inl ⟨hz, e⟩
    · rw [List.getElem?_set_ne hib] at hi
      exact .inr ⟨i, bl, fun e => hib e.symm, hi, hz, e⟩
  have live2 : ∀ k, (0 < (ρ b).2 ∧ (ρ b).1 = k) → Live ρ' [some blk'] k := fun k hk => ⟨0, blk', by simp, by rw [e0]; exact hk.1, by rw [e0]; exact hk.2⟩
  have hle2 : (ctx ρ S w H).le (ctx ρ S' w' (H.set b (some blk'))) := by
    refine ⟨by simp, fun _ _ => rfl, hle.S, hle.keep, fun k hk => ?_, fun k hk => ⟨Nat.lt_of_lt_of_le hk.1 hle.size, fun hl => ?_⟩, fun k hk => hle.heap k ⟨hk.1, fun hl => hk.2 (live1H k hl)⟩, hle.size, hle.os, hle.tape, hle.output⟩
    · rcases hle.new k hk with h | h | h
      · exact .inl h
      · exact .inr (.inl (live1H k h))
      · exact .inr (.inr h)
    · rcases live' k hl with h | ⟨i, bl, _, hi, hz, e⟩
      · exact hk.2 ⟨b, blk, hb, h.1, h.2⟩
      · exact hk.2 ⟨i, bl, hi, hz, e⟩
  refine ⟨v, ρ, S', he, ⟨fun k hk => ⟨(hS'.sub k hk).1, fun hl => ?_⟩, fun i bl hi hz => ?_, fun i bl hi hz => ?_, fun i j bi bj hi hj hz hz' e => ?_, hS'.glob⟩, hle2, Rd.move hd hr⟩
  · rcases live' k hl with h | ⟨i, bl, hib, hi, hz, e⟩
    · exact (hS'.sub k hk).2 (live2 k h)
    · rcases hle.new k hk with h | h | h
      · exact (hS.sub k h).2 ⟨i, bl, hi, hz, e⟩
      · obtain ⟨hz1, e1⟩ := live1 k h
        exact hib (hS.inj i b _ _ hi hb hz hz1 (e.trans e1.symm))
      · have := hS.lt ⟨i, bl, hi, hz, e⟩; simp only [ctx] at *; omega
  · by_cases hib : b = i
    · subst hib
      rw [List.getElem?_set_self hbl] at hi
      injection hi with hi; injection hi with hi; subst hi
      exact hS'.none 0 blk' (by simp) (by rw [e0]; exact hz)
    · rw [List.getElem?_set_ne hib] at hi; exact hS.none i bl hi hz
  · by_cases hib : b = i
    · subst hib
      rw [List.getElem?_set_self hbl] at hi
      injection hi with hi; injection hi with hi; subst hi
      obtain ⟨cur, hcur⟩ := hS'.blk 0 blk' (by simp) (by rw [e0]; exact hz)
      have hh := hcur.heap
      have hs := hcur.size
      rw [e0] at hh hs
      exact ⟨cur, hh, hs, RdL.moveZ hc' hcur.pre, hcur.full⟩
    · rw [List.getElem?_set_ne hib] at hi
      obtain ⟨cur, hcur⟩ := hS.blk i bl hi hz
      refine ⟨cur, hcur.heap.of (hle.heap _ ⟨hcur.lt, fun hl => ?_⟩), hcur.size, hcur.pre.mono hle2 _ _, hcur.full⟩
      obtain ⟨hz1, e1⟩ := live1 _ hl
      exact hib (hS.inj b i _ _ hb hi hz1 hz e1)
  · have back : ∀ i bi, (H.set b (some blk'))[i]? = some (some bi) → ∃ bl, H[i]? = some (some bl) := fun i bi hi => by
      by_cases hib : b = i
      · subst hib; exact ⟨blk, hb⟩
      · rw [List.getElem?_set_ne hib] at hi; exact ⟨bi, hi⟩
    obtain ⟨x, hx⟩ := back i bi hi
    obtain ⟨y, hy⟩ := back j bj hj
    exact hS.inj i j x y hx hy hz hz' e

/-- the first block stays, the others are given up -/
theorem fin_head {ds : List D} {blk blk' : Blk} {d1 : D} {H1 : Heap} (h00 : H1[0]? = some (some blk')) (hn : Nameless d1) (hc' : NamelessL blk'.cs) : Fin ds [some blk] d1 H1 d1 [some blk'] := by
  intro ρ0 S0 w0 ρ S w u hS0 hle hS hr
  have live0 : ∀ k, Live ρ [some blk'] k → 0 < (ρ 0).2 ∧ (ρ 0).1 = k := by
    rintro k ⟨b, bl, hb, hz, e⟩
    cases b with
    | zero => exact ⟨hz, e⟩
    | succ b => simp at hb
  have up : ∀ k, Live ρ [some blk'] k → Live ρ H1 k := fun k hk => ⟨0, blk', h00, (live0 k hk).1, (live0 k hk).2⟩
  refine ⟨ρ, S, ⟨fun k hk => ⟨(hS.sub k hk).1, fun hl => (hS.sub k hk).2 (up k hl)⟩, fun b bl hb hz => ?_, fun b bl hb hz => ?_, fun i j bi bj hi hj _ _ _ => ?_, hS.glob⟩, ?_, Rd.move hn hr⟩
  · cases b with
    | zero => simp at hb; subst hb; exact hS.none 0 _ h00 hz
    | succ b => simp at hb
  · cases b with
    | zero =>
      simp at hb; subst hb
      obtain ⟨cur, hcur⟩ := hS.blk 0 _ h00 hz
      exact ⟨cur, hcur.heap, hcur.size, RdL.moveZ hc' hcur.pre, hcur.full⟩
    | succ b => simp at hb
  · cases i with
    | zero => cases j with
      | zero => rfl
      | succ j => simp at hj
    | succ i => simp at hi
  · exact ⟨by simp, hle.ρ, hle.S, hle.keep, hle.new, fun k hk => ⟨(hle.fix k hk).1, fun hl => (hle.fix k hk).2 (up k hl)⟩, hle.heap, hle.size, hle.os, hle.tape, hle.output⟩
variable {P : Program} {nt : Nat}
/-- A SCOPE THAT JUMPS BACK: a state for each x with J x; a pass from the label leads to one of smaller measure, or out. -/
theorem DW.scopeJump {α : Type} {l : Nat} (J : α → Prop) (I : α → Env) (HI : α → Heap) (μ : α → Nat) {c rest : Code} {Q : Exit → Env → Heap → Prop} {env : Env} {H : Heap} (hf : findLabel c l = some rest)
    (first : DW P nt c (jumpQ l (fun env' H' => ∃ y, J y ∧ Has env' (I y) ∧ H' = HI y) Q) env H)
    (pass : ∀ x, J x → DW P nt rest (jumpQ l (fun env' H' => ∃ y, μ y < μ x ∧ J y ∧ Has env' (I y) ∧ H' = HI y) Q) (I x) (HI x)) : DW P nt (.scope c) Q env H := by
  intro ρ S w a hi
  refine wp_scope_ghost l (fun n a' w' => ∃ x ρ' S', μ x = n ∧ J x ∧ Inv nt ρ' S' w' (HI x) (I x) a' ∧ (ctx ρ S w H).le (ctx ρ' S' w' (HI x))) hf ?_ ?_
  · refine wp_mono (first ρ S w a hi) fun e a' w' ⟨env', H', ρ', S', h1, h2, h3⟩ => ?_
    cases e with
    | goto l' =>
      obtain ⟨rfl, y, hJ, hhas, rfl⟩ := h1
      exact ⟨rfl, μ y, y, ρ', S', rfl, hJ, h2.sub hhas, h3⟩
    | _ => exact ⟨env', H', ρ', S', h1, h2, h3⟩
  · rintro n a' w' ⟨x, ρ', S', rfl, hx, hi', hle⟩
    refine wp_mono (pass x hx ρ' S' w' a' hi') fun e a'' w'' ⟨env', H', ρ'', S'', h1, h2, h3⟩ => ?_
    cases e with
    | goto l' =>
      obtain ⟨rfl, y, hy, hJ, hhas, rfl⟩ := h1
      exact ⟨rfl, μ y, hy, y, ρ'', S'', rfl, hJ, h2.sub hhas, hle.trans h3⟩
    | _ => exact ⟨env', H', ρ'', S'', h1, h2, hle.trans h3⟩
end Go.VD
