import Derived.Test.YthnhfkpihbjddaaZKv8
import Derived.Test.YthnhfkpihbjddaaZKv7
section
namespace Go.VD
set_option linter.unusedVariables false
set_option linter.unusedSimpArgs false
theorem CallJ.frameAtS {P : Program} {f : FuncId} {off n : Nat} {c : Cap} {plain : List D} {blk blk' : Blk} {o m : Nat} {c2 : Cap} (h : CallJ P f (.sl 0 off n c :: plain) [some blk] (.sl 0 o m c2) [some blk']) (hpl : NamelessL plain) (hc : NamelessL blk.cs) (hc' : NamelessL blk'.cs)
    {H : Heap} {b : Nat} (hb : H[b]? = some (some blk)) : CallJ P f (.sl b off n c :: plain) H (.sl b o m c2) (H.set b (some blk')) := by
  have hbl : b < H.length := (List.getElem?_eq_some_iff.1 hb).1
  refine ⟨h.1, fun ρ S w vals hS hv => ?_⟩
  have live1 : ∀ k, Live (fun _ => ρ b) [some blk] k → 0 < (ρ b).2 ∧ (ρ b).1 = k := by
    rintro k ⟨i, bl, hi, hz, e⟩
    exact ⟨hz, e⟩
  have live1H : ∀ k, Live (fun _ => ρ b) [some blk] k → Live ρ H k := fun k hk => ⟨b, blk, hb, (live1 k hk).1, (live1 k hk).2⟩
  have hS1 : St (fun _ => ρ b) S w [some blk] := by
    refine ⟨fun k hk => ⟨(hS.sub k hk).1, fun hl => (hS.sub k hk).2 (live1H k hl)⟩, fun i bl hi hz => ?_, fun i bl hi hz => ?_, fun i j bi bj hi hj _ _ _ => ?_, hS.glob⟩
    · cases i with
      | zero => simp at hi; subst hi; exact hS.none b _ hb hz
      | succ i => simp at hi
    · cases i with
      | zero =>
        simp at hi; subst hi
        obtain ⟨cur, hcur⟩ := hS.blk b _ hb hz
        exact ⟨cur, hcur.heap, hcur.size, RdL.moveN hc hcur.pre, hcur.full⟩
      | succ i => simp at hi
    · cases i with
      | zero => cases j with
        | zero => rfl
        | succ j => simp at hj
      | succ i => simp at hi
  have hv1 : RdT (ctx (fun _ => ρ b) S w [some blk]) (.sl 0 off n c :: plain) vals := by
    simp only [RdT] at hv ⊢
    obtain ⟨u, r, e, h1, h2⟩ := hv
    refine ⟨u, r, e, ?_, RdT.move hpl h2⟩
    cases c <;> simp only [Rd] at h1 ⊢ <;> exact ⟨by simp, h1.2⟩
  refine (h.2 _ S w vals hS1 hv1).mono fun e w' ⟨v, ρ', S', he, hS', hle, hr⟩ => ?_
  have e0 : ρ' 0 = ρ b := hle.ρ 0 (by simp)
  have live' : ∀ k, Live ρ (H.set b (some blk')) k → (0 < (ρ b).2 ∧ (ρ b).1 = k) ∨ ∃ i bl, i ≠ b ∧ H[i]? = some (some bl) ∧ 0 < (ρ i).2 ∧ (ρ i).1 = k := by
    rintro k ⟨i, bl, hi, hz, e⟩
    by_cases hib : b = i
    · subst hib; exact .inl ⟨hz, e⟩
    · rw [List.getElem?_set_ne hib] at hi
      exact .inr ⟨i, bl, fun e => hib e.symm, hi, hz, e⟩
  have live2 : ∀ k, (0 < (ρ b).2 ∧ (ρ b).1 = k) → Live ρ' [some blk'] k := fun k hk => ⟨0, blk', by simp, by rw [e0]; exact hk.1, by rw [e0]; exact hk.2⟩
  have hle2 : (ctx ρ S w H).le (ctx ρ S' w' (H.set b (some blk'))) := by
    refine ⟨by simp, fun _ _ => rfl, hle.S, hle.keep, fun k hk => ?_, fun k hk => ⟨Nat.lt_of_lt_of_le hk.1 hle.size, fun hl => ?_⟩, fun k hk => hle.heap k ⟨hk.1, fun hl => hk.2 (live1H k hl)⟩, hle.size, hle.os, hle.tape, hle.output⟩
    · rcases hle.new k hk with h | h | h
      · exact .inl h
      · exact .inr (.inl (live1H k h))
      · exact .inr (.inr h)
    · rcases live' k hl with h | ⟨i, bl, _, hi, hz, e⟩
      · exact hk.2 ⟨b, blk, hb, h.1, h.2⟩
      · exact hk.2 ⟨i, bl, hi, hz, e⟩
  refine ⟨v, ρ, S', he, ⟨fun k hk => ⟨(hS'.sub k hk).1, fun hl => ?_⟩, fun i bl hi hz => ?_, fun i bl hi hz => ?_, fun i j bi bj hi hj hz hz' e => ?_, hS'.glob⟩, hle2, by
    cases c2 <;> simp only [Rd] at hr ⊢ <;> rw [e0] at hr <;> exact ⟨by simpa using hbl, hr.2⟩⟩
  · rcases live' k hl with h | ⟨i, bl, hib, hi, hz, e⟩
    · exact (hS'.sub k hk).2 (live2 k h)
    · rcases hle.new k hk with h | h | h
      · exact (hS.sub k h).2 ⟨i, bl, hi, hz, e⟩
      · obtain ⟨hz1, e1⟩ := live1 k h
        exact hib (hS.inj i b _ _ hi hb hz hz1 (e.trans e1.symm))
      · have := hS.lt ⟨i, bl, hi, hz, e⟩; simp only [ctx] at *; omega
  · by_cases hib : b = i
    · subst hib
      rw [List.getElem?_set_self hbl] at hi
      injection hi with hi; injection hi with hi; subst hi
      exact hS'.none 0 blk' (by simp) (by rw [e0]; exact hz)
    · rw [List.getElem?_set_ne hib] at hi; exact hS.none i bl hi hz
  · by_cases hib : b = i
    · subst hib
      rw [List.getElem?_set_self hbl] at hi
      injection hi with hi; injection hi with hi; subst hi
      obtain ⟨cur, hcur⟩ := hS'.blk 0 blk' (by simp) (by rw [e0]; exact hz)
      have hh := hcur.heap
      have hs := hcur.size
      rw [e0] at hh hs
      exact ⟨cur, hh, hs, RdL.moveN hc' hcur.pre, hcur.full⟩
    · rw [List.getElem?_set_ne hib] at hi
      obtain ⟨cur, hcur⟩ := hS.blk i bl hi hz
      refine ⟨cur, (hle.heap _ ⟨hcur.lt, fun hl => ?_⟩).trans hcur.heap, hcur.size, hcur.pre.mono hle2 _ _, hcur.full⟩
      obtain ⟨hz1, e1⟩ := live1 _ hl
      exact hib (hS.inj b i _ _ hb hi hz1 hz e1)
  · have back : ∀ i bi, (H.set b (some blk'))[i]? = some (some bi) → ∃ bl, H[i]? = some (some bl) := fun i bi hi => by
      by_cases hib : b = i
      · subst hib; exact ⟨blk, hb⟩
      · rw [List.getElem?_set_ne hib] at hi; exact ⟨bi, hi⟩
    obtain ⟨x, hx⟩ := back i bi hi
    obtain ⟨y, hy⟩ := back j bj hj
    exact hS.inj i j x y hx hy hz hz' e
abbrev EntK := List D → Option (Nat × Cap × Blk × Prop)
def EntKOk (P : Program) (g : FuncId) (e : EntK) : Prop := ∀ ds n c blk p, e ds = some (n, c, blk, p) → p → CallJ P g ds [] (.sl 0 0 n c) [some blk] ∧ NamelessL ds ∧ NamelessL blk.cs
def addMake (f : FuncId) (e : EntK) (r : CallO) : CallO := fun g ds H K => bif Nat.beq g f then (match e ds with
  | some (n, c, blk, p) => some (p ∧ K (.sl H.length 0 n c) (H ++ [some blk]) (.mk H.length))
  | none => none) else r g ds H K
mutual
theorem shD_nameless {k : Nat} : ∀ d : D, Nameless d → shD k d = d
  | .v _, _ => rfl
  | .ro _ _, _ => rfl
  | .rp _ _, _ => rfl
  | .sl _ _ _ _, h => by simp [Nameless] at h
  | .ptr _ _, h => by simp [Nameless] at h
  | .agg xs, h => by simp only [Nameless] at h; simp only [shD]; rw [shL_nameless xs h]
  | .tup xs, h => by simp only [Nameless] at h; simp only [shD]; rw [shL_nameless xs h]
  | .ifc _ d, h => by simp only [Nameless] at h; simp only [shD]; rw [shD_nameless d h]
  | .fn _ _ xs, h => by simp only [Nameless] at h; simp only [shD]; rw [shL_nameless xs h]
theorem shL_nameless {k : Nat} : ∀ cs : List D, NamelessL cs → shL k cs = cs
  | [], _ => rfl
  | d :: ds, h => by simp only [NamelessL] at h; simp only [shL]; rw [shD_nameless d h.1, shL_nameless ds h.2]
end
theorem addMake_ok {P : Program} {f : FuncId} {e : EntK} {r : CallO} (he : EntKOk P f e) (hr : CallOK P r) : CallOK P (addMake f e r) := by
  intro g ds H K p h hp
  unfold addMake at h
  cases hg : Nat.beq g f with
  | false => rw [hg] at h; exact hr g ds H K p h hp
  | true =>
    rw [hg] at h
    have hgf : g = f := Nat.eq_of_beq_eq_true hg
    subst hgf
    simp only [cond_true] at h
    split at h
    · rename_i n c blk q hq
      injection h with h; subst h
      obtain ⟨hc, hn, hl⟩ := he _ _ _ _ _ hq hp.1
      refine .makes _ [some blk] (fun H1 hl1 => ?_) hp.2
      have := hc.frame hn H1
      simp only [shD, shH, List.map_cons, List.map_nil, shO, shB, shL_nameless _ hl, Nat.zero_add, hl1] at this
      exact this
    · cases h
theorem fin_second {ds : List D} {o n : Nat} {c : Cap} {blk : Blk} (hn : NamelessL blk.cs) : Fin ds [] (.sl 1 o n c) [none, some blk] (.sl 0 o n c) [some blk] := by
  intro ρ0 S0 w0 ρ S w u hS0 hle hS hr
  have live : ∀ k, Live (fun b => ρ (b + 1)) [some blk] k → Live ρ [none, some blk] k := by
    rintro k ⟨i, bl, hi, hz, e⟩
    exact ⟨i + 1, bl, by simpa using hi, hz, e⟩
  have up : ∀ (i : Nat) (bl : Blk), [some blk][i]? = some (some bl) → [none, some blk][i + 1]? = some (some bl) := fun i bl h => by simpa using h
  refine ⟨fun b => ρ (b + 1), S, ⟨fun k hk => ⟨(hS.sub k hk).1, fun hl => (hS.sub k hk).2 (live k hl)⟩, fun i bl hi hz => hS.none (i + 1) bl (up i bl hi) hz, fun i bl hi hz => ?_, fun i j bi bj hi hj hz hz' e => ?_, hS.glob⟩, ?_, ?_⟩
  · obtain ⟨cur, hcur⟩ := hS.blk (i + 1) bl (up i bl hi) hz
    refine ⟨cur, hcur.heap, hcur.size, RdL.moveN ?_ hcur.pre, hcur.full⟩
    cases i with
    | zero => simp at hi; subst hi; exact hn
    | succ i => simp at hi
  · have := hS.inj (i + 1) (j + 1) bi bj (up i bi hi) (up j bj hj) hz hz' e
    omega
  · exact ⟨Nat.zero_le _, fun b hb => absurd hb (Nat.not_lt_zero _), hle.S, hle.keep, hle.new, fun k hk => ⟨(hle.fix k hk).1, fun hl => (hle.fix k hk).2 (live k hl)⟩, hle.heap, hle.size, hle.os, hle.tape, hle.output⟩
  · cases c <;> simp only [Rd] at hr ⊢ <;> exact ⟨by simp, hr.2⟩
theorem CallJ.nilSl {P : Program} {f : FuncId} {ds : List D} {H H' : Heap} {b o : Nat} (hb : b < H'.length) (h : CallJ P f ds H (.v (.slice none 0 0)) H') : CallJ P f ds H (.sl b o 0 (.exact 0 1)) H' := by
  refine ⟨h.1, fun ρ S w vals hS hv => (h.2 ρ S w vals hS hv).mono fun e w' ⟨v, ρ', S', he, hS', hle, hr⟩ => ⟨v, ρ', S', he, hS', hle, ?_⟩⟩
  simp only [Rd] at hr ⊢
  exact ⟨hb, Nat.le_refl _, Nat.zero_le _, none, hr, fun h => absurd h (by decide)⟩
abbrev EntS := Nat → Nat → Cap → List D → Blk → Option (Nat × Prop)
def EntSOk (P : Program) (g : FuncId) (e : EntS) : Prop := ∀ off n c plain blk m p, e off n c plain blk = some (m, p) → p →
  NamelessL plain ∧ NamelessL blk.cs ∧ (m = 0 → CallJ P g (.sl 0 off n c :: plain) [some blk] (.v (.slice none 0 0)) [some blk]) ∧ (0 < m → CallJ P g (.sl 0 off n c :: plain) [some blk] (.sl 0 off m (.exact m 1)) [some blk])
def addCut (f : FuncId) (e : EntS) (r : CallO) : CallO := fun g ds H K => bif Nat.beq g f then (match ds with
  | .sl b off n c :: plain => match blkAt H b with
    | some blk => match e off n c plain blk with
      | some (m, p) => some (p ∧ K (.sl b off m (.exact m 1)) (H.set b (some blk)) .al)
      | none => none
    | none => none
  | _ => none) else r g ds H K
theorem addCut_ok {P : Program} {f : FuncId} {e : EntS} {r : CallO} (he : EntSOk P f e) (hr : CallOK P r) : CallOK P (addCut f e r) := by
  intro g ds H K p h hp
  unfold addCut at h
  cases hg : Nat.beq g f with
  | false => rw [hg] at h; exact hr g ds H K p h hp
  | true =>
    rw [hg] at h
    have hgf : g = f := Nat.eq_of_beq_eq_true hg
    subst hgf
    simp only [cond_true] at h
    split at h
    · rename_i b off n c plain
      split at h
      · rename_i blk hblk
        split at h
        · rename_i m q hq
          injection h with h; subst h
          obtain ⟨h1, h2, h3, h4⟩ := he _ _ _ _ _ _ _ hq hp.1
          have hs : CallJ P g (.sl 0 off n c :: plain) [some blk] (.sl 0 off m (.exact m 1)) [some blk] := by
            rcases Nat.eq_zero_or_pos m with h0 | h0
            · have := (h3 h0).nilSl (b := 0) (o := off) (by simp)
              rwa [h0]
            · exact h4 h0
          exact .own _ _ (hs.frameAtS h1 h2 h2 (blkAt_some hblk)) hp.2
        · cases h
      · cases h
    · cases h
theorem callJ_same {P : Program} {T : Tbl} (hT : TblOk P T) {N : Nat} {call : CallO} {lp : Nat → Option LoopO} (hm : P.follows .mixedOrders = true) (hc : CallOK P call) {f : FuncId} {fn : Func} {c : Code} {ds : List D} {H H' : Heap} {d : D} (hf : P.funcs[f]? = some fn) (hb : fn.body = some c)
    (hname : (fn.name == "runtime.NumGoroutine") = false) (hok : codeOk fn.ntmps c = true) (hlen : decide (ds.length ≤ fn.ntmps) = true) (hl : LpAll P fn.ntmps lp (loopsOf c))
    (h : vcx P call lp T N c (retQ T fn.results.toList fun d1 H1 => d1 = d ∧ H1 = H') (envOf 0 ds) H) : CallJ P f ds H d H' := by
  refine callJ_of_dw hT hf hb hname (by simpa using hlen) ((vcx_sound hT hm hc c _ _ _ hok hl h).mono fun e env H h => ?_)
  cases e <;> simp only [retQ] at h ⊢
  all_goals first
    | exact h.elim
    | (split at h
       · obtain ⟨g1, rfl, rfl⟩ := h
         exact ⟨g1, fin_same⟩
       · exact h.elim)
theorem callJ_second {P : Program} {T : Tbl} (hT : TblOk P T) {N : Nat} {call : CallO} {lp : Nat → Option LoopO} (hm : P.follows .mixedOrders = true) (hc : CallOK P call) {f : FuncId} {fn : Func} {c : Code} {ds : List D} {o n : Nat} {cp : Cap} {blk : Blk} (hf : P.funcs[f]? = some fn) (hb : fn.body = some c)
    (hname : (fn.name == "runtime.NumGoroutine") = false) (hok : codeOk fn.ntmps c = true) (hlen : decide (ds.length ≤ fn.ntmps) = true) (hl : LpAll P fn.ntmps lp (loopsOf c)) (hn : NamelessL blk.cs)
    (h : vcx P call lp T N c (retQ T fn.results.toList fun d1 H1 => d1 = .sl 1 o n cp ∧ H1 = [none, some blk]) (envOf 0 ds) []) : CallJ P f ds [] (.sl 0 o n cp) [some blk] := by
  refine callJ_of_dw hT hf hb hname (by simpa using hlen) ((vcx_sound hT hm hc c _ _ _ hok hl h).mono fun e env H h => ?_)
  cases e <;> simp only [retQ] at h ⊢
  all_goals first
    | exact h.elim
    | (split at h
       · obtain ⟨g1, g2, rfl⟩ := h
         rw [g2]
         exact ⟨g1, fin_second hn⟩
       · exact h.elim)
theorem CallJ.frameGrow {P : Program} {f : FuncId} {off n n' : Nat} {c : Cap} {plain : List D} {blk blk' : Blk} (h : CallJ P f (.sl 0 off n c :: plain) [some blk] (.sl 1 0 n' (.toEnd 1)) [none, some blk']) (hpl : NamelessL plain) (hc : NamelessL blk.cs) (hc' : NamelessL blk'.cs)
    {H : Heap} {b : Nat} (hb : H[b]? = some (some blk)) : CallJ P f (.sl b off n c :: plain) H (.sl H.length 0 n' (.toEnd 1)) (H.set b none ++ [some blk']) := by
  have hbl : b < H.length := (List.getElem?_eq_some_iff.1 hb).1
  refine ⟨h.1, fun ρ S w vals hS hv => ?_⟩
  have live1 : ∀ k, Live (fun _ => ρ b) [some blk] k → 0 < (ρ b).2 ∧ (ρ b).1 = k := by
    rintro k ⟨i, bl, hi, hz, e⟩
    exact ⟨hz, e⟩
  have live1H : ∀ k, Live (fun _ => ρ b) [some blk] k → Live ρ H k := fun k hk => ⟨b, blk, hb, (live1 k hk).1, (live1 k hk).2⟩
  have hS1 : St (fun _ => ρ b) S w [some blk] := by
    refine ⟨fun k hk => ⟨(hS.sub k hk).1, fun hl => (hS.sub k hk).2 (live1H k hl)⟩, fun i bl hi hz => ?_, fun i bl hi hz => ?_, fun i j bi bj hi hj _ _ _ => ?_, hS.glob⟩
    · cases i with
      | zero => simp at hi; subst hi; exact hS.none b _ hb hz
      | succ i => simp at hi
    · cases i with
      | zero =>
        simp at hi; subst hi
        obtain ⟨cur, hcur⟩ := hS.blk b _ hb hz
        exact ⟨cur, hcur.heap, hcur.size, RdL.moveN hc hcur.pre, hcur.full⟩
      | succ i => simp at hi
    · cases i with
      | zero => cases j with
        | zero => rfl
        | succ j => simp at hj
      | succ i => simp at hi
  have hv1 : RdT (ctx (fun _ => ρ b) S w [some blk]) (.sl 0 off n c :: plain) vals := by
    simp only [RdT] at hv ⊢
    obtain ⟨u, r, e, h1, h2⟩ := hv
    refine ⟨u, r, e, ?_, RdT.move hpl h2⟩
    cases c <;> simp only [Rd] at h1 ⊢ <;> exact ⟨by simp, h1.2⟩
  refine (h.2 _ S w vals hS1 hv1).mono fun e w' ⟨v, ρ', S', he, hS', hle, hr⟩ => ?_
  let ρ2 : Nat → Nat × Nat := fun i => if i = H.length then ρ' 1 else ρ i
  have e2 : ρ2 H.length = ρ' 1 := if_pos rfl
  have e1 : ∀ i, i < H.length → ρ2 i = ρ i := fun i hi => if_neg (by omega)
  have get2 : ∀ i bl, (H.set b none ++ [some blk'])[i]? = some (some bl) → (i = H.length ∧ bl = blk') ∨ (i ≠ b ∧ i < H.length ∧ H[i]? = some (some bl)) := by
    intro i bl hi
    rcases Nat.lt_or_ge i H.length with hlt | hge
    · rw [List.getElem?_append_left (by simpa using hlt)] at hi
      by_cases hib : b = i
      · subst hib
        rw [List.getElem?_set_self hbl] at hi
        simp at hi
      · rw [List.getElem?_set_ne hib] at hi
        exact .inr ⟨fun e => hib e.symm, hlt, hi⟩
    · rw [List.getElem?_append_right (by simpa using hge)] at hi
      simp only [List.length_set] at hi
      have hi0 : i - H.length = 0 := by
        rcases Nat.eq_zero_or_pos (i - H.length) with h0 | h0
        · exact h0
        · rw [List.getElem?_eq_none (by simp; omega)] at hi; simp at hi
      rw [hi0] at hi
      simp at hi
      exact .inl ⟨by omega, hi.symm⟩
  have live' : ∀ k, Live ρ2 (H.set b none ++ [some blk']) k → (0 < (ρ' 1).2 ∧ (ρ' 1).1 = k) ∨ ∃ i bl, i ≠ b ∧ H[i]? = some (some bl) ∧ 0 < (ρ i).2 ∧ (ρ i).1 = k := by
    rintro k ⟨i, bl, hi, hz, e⟩
    rcases get2 i bl hi with ⟨rfl, rfl⟩ | ⟨h1, h2, h3⟩
    · rw [e2] at hz e; exact .inl ⟨hz, e⟩
    · rw [e1 i h2] at hz e; exact .inr ⟨i, bl, h1, h3, hz, e⟩
  have live2 : ∀ k, (0 < (ρ' 1).2 ∧ (ρ' 1).1 = k) → Live ρ' [none, some blk'] k := fun k hk => ⟨1, blk', by simp, hk.1, hk.2⟩
  have new1 : 0 < (ρ' 1).2 → (0 < (ρ b).2 ∧ (ρ b).1 = (ρ' 1).1) ∨ w.heap.size ≤ (ρ' 1).1 := fun hz => by
    rcases Nat.lt_or_ge (ρ' 1).1 w.heap.size with hlt | hge
    · by_cases hl : Live (fun _ => ρ b) [some blk] (ρ' 1).1
      · exact .inl (live1 _ hl)
      · exact absurd (live2 _ ⟨hz, rfl⟩) (hle.fix _ ⟨hlt, hl⟩).2
    · exact .inr hge
  have hle2 : (ctx ρ S w H).le (ctx ρ2 S' w' (H.set b none ++ [some blk'])) := by
    refine ⟨by simp, fun i hi => e1 i hi, hle.S, hle.keep, fun k hk => ?_, fun k hk => ⟨Nat.lt_of_lt_of_le hk.1 hle.size, fun hl => ?_⟩, fun k hk => hle.heap k ⟨hk.1, fun hl => hk.2 (live1H k hl)⟩, hle.size, hle.os, hle.tape, hle.output⟩
    · rcases hle.new k hk with h | h | h
      · exact .inl h
      · exact .inr (.inl (live1H k h))
      · exact .inr (.inr h)
    · rcases live' k hl with ⟨hz, e⟩ | ⟨i, bl, _, hi, hz, e⟩
      · rcases new1 hz with h1 | h1
        · exact hk.2 ⟨b, blk, hb, h1.1, h1.2.trans e⟩
        · have := hk.1; simp only [ctx] at *; omega
      · exact hk.2 ⟨i, bl, hi, hz, e⟩
  refine ⟨v, ρ2, S', he, ⟨fun k hk => ⟨(hS'.sub k hk).1, fun hl => ?_⟩, fun i bl hi hz => ?_, fun i bl hi hz => ?_, fun i j bi bj hi hj hz hz' e => ?_, hS'.glob⟩, hle2, ?_⟩
  · rcases live' k hl with h | ⟨i, bl, hib, hi, hz, e⟩
    · exact (hS'.sub k hk).2 (live2 k h)
    · rcases hle.new k hk with h | h | h
      · exact (hS.sub k h).2 ⟨i, bl, hi, hz, e⟩
      · obtain ⟨hz1, e1⟩ := live1 k h
        exact hib (hS.inj i b _ _ hi hb hz hz1 (e.trans e1.symm))
      · have := hS.lt ⟨i, bl, hi, hz, e⟩; simp only [ctx] at *; omega
  · rcases get2 i bl hi with ⟨rfl, rfl⟩ | ⟨h1, h2, h3⟩
    · rw [e2] at hz; exact hS'.none 1 bl (by simp) hz
    · rw [e1 i h2] at hz; exact hS.none i bl h3 hz
  · rcases get2 i bl hi with ⟨rfl, rfl⟩ | ⟨h1, h2, h3⟩
    · rw [e2] at hz ⊢
      obtain ⟨cur, hcur⟩ := hS'.blk 1 bl (by simp) hz
      exact ⟨cur, hcur.heap, hcur.size, RdL.moveN hc' hcur.pre, hcur.full⟩
    · rw [e1 i h2] at hz ⊢
      obtain ⟨cur, hcur⟩ := hS.blk i bl h3 hz
      refine ⟨cur, (hle.heap _ ⟨hcur.lt, fun hl => ?_⟩).trans hcur.heap, hcur.size, hcur.pre.mono hle2 _ _, hcur.full⟩
      obtain ⟨hz1, e1⟩ := live1 _ hl
      exact h1 (hS.inj i b _ _ h3 hb hz hz1 e1.symm)
  · have cross : ∀ i bi, i ≠ b → H[i]? = some (some bi) → 0 < (ρ i).2 → 0 < (ρ' 1).2 → (ρ i).1 ≠ (ρ' 1).1 := fun i bi hib hi hz hz' e => by
      rcases new1 hz' with h1 | h1
      · exact hib (hS.inj i b _ _ hi hb hz h1.1 (e.trans h1.2.symm))
      · have := hS.lt ⟨i, bi, hi, hz, rfl⟩; omega
    rcases get2 i bi hi with ⟨rfl, rfl⟩ | ⟨h1, h2, h3⟩
    · rcases get2 j bj hj with ⟨rfl, rfl⟩ | ⟨g1, g2, g3⟩
      · rfl
      · rw [e2] at hz e; rw [e1 j g2] at hz' e
        exact absurd e.symm (cross j bj g1 g3 hz' hz)
    · rcases get2 j bj hj with ⟨rfl, rfl⟩ | ⟨g1, g2, g3⟩
      · rw [e2] at hz' e; rw [e1 i h2] at hz e
        exact absurd e (cross i bi h1 h3 hz hz')
      · rw [e1 i h2] at hz e; rw [e1 j g2] at hz' e
        exact hS.inj i j bi bj h3 g3 hz hz' e
  · simp only [Rd] at hr ⊢
    have hr2 := hr.2
    rw [← e2] at hr2
    exact ⟨by simp, hr2⟩
abbrev EntR := Nat → Nat → Cap → List D → Blk → Option (Bool × Nat × Blk × Prop)
def EntROk (P : Program) (g : FuncId) (e : EntR) : Prop := ∀ off n c plain blk gr m blk' p, e off n c plain blk = some (gr, m, blk', p) → p →
  (NamelessL plain ∧ NamelessL blk.cs ∧ NamelessL blk'.cs) ∧ (gr = false → CallJ P g (.sl 0 off n c :: plain) [some blk] (.sl 0 0 m (.toEnd 1)) [some blk']) ∧ (gr = true → CallJ P g (.sl 0 off n c :: plain) [some blk] (.sl 1 0 m (.toEnd 1)) [none, some blk'])
def addGrow (f : FuncId) (e : EntR) (r : CallO) : CallO := fun g ds H K => bif Nat.beq g f then (match ds with
  | .sl b off n c :: plain => match blkAt H b with
    | some blk => match e off n c plain blk with
      | some (gr, m, blk', p) => some (p ∧ pcond gr (K (.sl H.length 0 m (.toEnd 1)) (H.set b none ++ [some blk']) .al) (K (.sl b 0 m (.toEnd 1)) (H.set b (some blk')) .al))
      | none => none
    | none => none
  | _ => none) else r g ds H K
theorem addGrow_ok {P : Program} {f : FuncId} {e : EntR} {r : CallO} (he : EntROk P f e) (hr : CallOK P r) : CallOK P (addGrow f e r) := by
  intro g ds H K p h hp
  unfold addGrow at h
  cases hg : Nat.beq g f with
  | false => rw [hg] at h; exact hr g ds H K p h hp
  | true =>
    rw [hg] at h
    have hgf : g = f := Nat.eq_of_beq_eq_true hg
    subst hgf
    simp only [cond_true] at h
    split at h
    · rename_i b off n c plain
      split at h
      · rename_i blk hblk
        split at h
        · rename_i gr m blk' q hq
          injection h with h; subst h
          obtain ⟨⟨h1, h2, h3⟩, h4, h5⟩ := he _ _ _ _ _ _ _ _ _ hq hp.1
          have hk := hp.2
          cases gr with
          | true =>
            rw [pcond_true] at hk
            exact .own _ _ ((h5 rfl).frameGrow h1 h2 h3 (blkAt_some hblk)) hk
          | false =>
            rw [pcond_false] at hk
            exact .own _ _ ((h4 rfl).frameAtS h1 h2 h3 (blkAt_some hblk)) hk
        · cases h
      · cases h
    · cases h
theorem fin_third {ds : List D} {y x : Option Blk} {o n : Nat} {c : Cap} {blk : Blk} (hn : NamelessL blk.cs) : Fin ds [y] (.sl 2 o n c) [none, x, some blk] (.sl 1 o n c) [none, some blk] := by
  intro ρ0 S0 w0 ρ S w u hS0 hle hS hr
  let ρ2 : Nat → Nat × Nat := fun b => if b = 1 then ρ 2 else ρ b
  have e1 : ρ2 1 = ρ 2 := rfl
  have e0 : ρ2 0 = ρ 0 := rfl
  have get : ∀ (i : Nat) (bl : Blk), ([none, some blk] : Heap)[i]? = some (some bl) → i = 1 ∧ bl = blk := by
    intro i bl h
    match i with
    | 0 => simp at h
    | 1 => simp at h; exact ⟨rfl, h.symm⟩
    | i + 2 => simp at h
  have at2 : ([none, x, some blk] : Heap)[2]? = some (some blk) := rfl
  have live : ∀ k, Live ρ2 [none, some blk] k → Live ρ [none, x, some blk] k := by
    rintro k ⟨i, bl, hi, hz, e⟩
    obtain ⟨rfl, rfl⟩ := get i bl hi
    rw [e1] at hz e
    exact ⟨2, bl, at2, hz, e⟩
  refine ⟨ρ2, S, ⟨fun k hk => ⟨(hS.sub k hk).1, fun hl => (hS.sub k hk).2 (live k hl)⟩, fun i bl hi hz => ?_, fun i bl hi hz => ?_, fun i j bi bj hi hj hz hz' e => ?_, hS.glob⟩, ?_, ?_⟩
  · obtain ⟨rfl, rfl⟩ := get i bl hi
    rw [e1] at hz
    exact hS.none 2 bl at2 hz
  · obtain ⟨rfl, rfl⟩ := get i bl hi
    rw [e1] at hz ⊢
    obtain ⟨cur, hcur⟩ := hS.blk 2 bl at2 hz
    exact ⟨cur, hcur.heap, hcur.size, RdL.moveN hn hcur.pre, hcur.full⟩
  · rw [(get i bi hi).1, (get j bj hj).1]
  · refine ⟨by simp, fun b hb => ?_, hle.S, hle.keep, hle.new, fun k hk => ⟨(hle.fix k hk).1, fun hl => (hle.fix k hk).2 (live k hl)⟩, hle.heap, hle.size, hle.os, hle.tape, hle.output⟩
    have : b = 0 := by simp at hb; exact hb
    subst this
    rw [← hle.ρ 0 (by simp)]
    exact e0
  · cases c <;> simp only [Rd] at hr ⊢ <;> exact ⟨by simp, hr.2⟩
theorem callJ_third {P : Program} {T : Tbl} (hT : TblOk P T) {N : Nat} {call : CallO} {lp : Nat → Option LoopO} (hm : P.follows .mixedOrders = true) (hc : CallOK P call) {f : FuncId} {fn : Func} {c : Code} {ds : List D} {o n : Nat} {cp : Cap} {y : Option Blk} {blk : Blk} (hf : P.funcs[f]? = some fn) (hb : fn.body = some c)
    (hname : (fn.name == "runtime.NumGoroutine") = false) (hok : codeOk fn.ntmps c = true) (hlen : decide (ds.length ≤ fn.ntmps) = true) (hl : LpAll P fn.ntmps lp (loopsOf c)) (hn : NamelessL blk.cs)
    (h : vcx P call lp T N c (retQ T fn.results.toList fun d1 H1 => d1 = .sl 2 o n cp ∧ ∃ x, H1 = [none, x, some blk]) (envOf 0 ds) [y]) : CallJ P f ds [y] (.sl 1 o n cp) [none, some blk] := by
  refine callJ_of_dw hT hf hb hname (by simpa using hlen) ((vcx_sound hT hm hc c _ _ _ hok hl h).mono fun e env H h => ?_)
  cases e <;> simp only [retQ] at h ⊢
  all_goals first
    | exact h.elim
    | (split at h
       · obtain ⟨g1, g2, x, rfl⟩ := h
         rw [g2]
         exact ⟨g1, fin_third hn⟩
       · exact h.elim)
end Go.VD
end
section
namespace Go.Proofs.Ythnhfkpihbjddaa
open Go.VD
set_option linter.unusedVariables false
set_option linter.unusedSimpArgs false
theorem nv_drop_div {X : List Nat} (h : Dig X) {k : Nat} (hk : k ≤ X.length) : nv (X.drop k) = nv X / 4294967296 ^ k := by
  have e := nv_append (X.take k) (X.drop k)
  rw [List.take_append_drop] at e
  have l : (X.take k).length = k := by simp; omega
  have b := nv_lt (h.take k)
  rw [l] at e b
  rw [e, Nat.add_mul_div_left _ _ (pow_pos32 k), Nat.div_eq_of_lt b, Nat.zero_add]
theorem dgn_getD : ∀ n v k, k < n → (dgn n v).getD k 0 = v / 4294967296 ^ k % 4294967296
  | 0, v, k, h => by omega
  | n + 1, v, 0, h => by simp [dgn]
  | n + 1, v, k + 1, h => by
    have := dgn_getD n (v / 4294967296) k (by omega)
    rw [dgn, List.getD_cons_succ, this, Nat.div_div_eq_div_mul, Nat.pow_succ, Nat.mul_comm]
def divT (zs : List Nat) (n d k : Nat) : List Nat := zs.take k ++ ((dgn n (nv (zs.take n) / d)).drop k ++ zs.drop n)
def remT (zs : List Nat) (n d k : Nat) : Nat := nv ((zs.take n).drop k) % d
theorem divT_length {zs : List Nat} {n d k : Nat} (h : n ≤ zs.length) (hk : k ≤ n) : (divT zs n d k).length = zs.length := by
  simp [divT, dgn_length]; omega
theorem take_getD {zs : List Nat} {n k : Nat} (hk : k < n) : (zs.take n).getD k 0 = zs.getD k 0 := by
  simp [List.getD_eq_getElem?_getD, List.getElem?_take, hk]
theorem divT_get {zs : List Nat} {n d k : Nat} (h : n ≤ zs.length) (hk : k < n) : (divT zs n d (k + 1)).getD k 0 = zs.getD k 0 := by
  have l : (zs.take (k + 1)).length = k + 1 := by simp; omega
  rw [divT, List.getD_eq_getElem?_getD, List.getElem?_append_left (by omega), ← List.getD_eq_getElem?_getD, take_getD (by omega)]
theorem rem_step {zs : List Nat} {n d k : Nat} (hk : k < n) : nv ((zs.take n).drop k) = zs.getD k 0 + 4294967296 * nv ((zs.take n).drop (k + 1)) := by
  rw [nv_drop_succ, take_getD hk]
theorem remT_lt {zs : List Nat} {n d k : Nat} (hd : 0 < d) : remT zs n d k < d := Nat.mod_lt _ hd
theorem remT_succ {zs : List Nat} {n d k : Nat} (hk : k < n) : (remT zs n d (k + 1) * 4294967296 + zs.getD k 0) % d = remT zs n d k := by
  unfold remT
  rw [rem_step (d := d) hk]
  generalize nv ((zs.take n).drop (k + 1)) = w
  rw [Nat.add_comm (zs.getD k 0), Nat.mul_comm 4294967296 w, Nat.add_mod, Nat.mul_mod, Nat.mod_mod, ← Nat.mul_mod, ← Nat.add_mod]
theorem quo_lt {zs : List Nat} {n d k : Nat} (hz : Dig zs) (hd : 0 < d) : remT zs n d (k + 1) * 4294967296 + zs.getD k 0 < d * 4294967296 := by
  have h1 := remT_lt (zs := zs) (n := n) (k := k + 1) hd
  have h2 := hz.get k
  have h3 : (remT zs n d (k + 1) + 1) * 4294967296 ≤ d * 4294967296 := Nat.mul_le_mul_right _ h1
  omega
theorem quo_digit {zs : List Nat} {n d k : Nat} (hz : Dig zs) (hn : n ≤ zs.length) (hd : 0 < d) (hk : k < n) : (remT zs n d (k + 1) * 4294967296 + zs.getD k 0) / d = nv (zs.take n) / d / 4294967296 ^ k % 4294967296 := by
  have hl : (zs.take n).length = n := by simp; omega
  have e1 : nv (zs.take n) / d / 4294967296 ^ k = nv ((zs.take n).drop k) / d := by
    rw [nv_drop_div (hz.take n) (by omega), Nat.div_div_eq_div_mul, Nat.div_div_eq_div_mul, Nat.mul_comm]
  have hq := quo_lt (n := n) (k := k) hz hd
  rw [e1, rem_step (d := d) hk]
  unfold remT at *
  generalize nv ((zs.take n).drop (k + 1)) = w at *
  have e2 : zs.getD k 0 + 4294967296 * w = (w % d * 4294967296 + zs.getD k 0) + d * (w / d * 4294967296) := by
    have := Nat.mod_add_div w d
    have e3 : 4294967296 * w = 4294967296 * (w % d + d * (w / d)) := by rw [this]
    rw [e3]; grind
  rw [e2]
  generalize w % d = r at *
  rw [Nat.add_mul_div_left _ _ hd, Nat.add_mul_mod_self_right, Nat.mod_eq_of_lt]
  rw [Nat.div_lt_iff_lt_mul hd]
  omega
theorem divT_set {zs : List Nat} {n d k : Nat} (hz : Dig zs) (hn : n ≤ zs.length) (hd : 0 < d) (hk : k < n) : (divT zs n d (k + 1)).set k ((remT zs n d (k + 1) * 4294967296 + zs.getD k 0) / d) = divT zs n d k := by
  rw [quo_digit hz hn hd hk]
  have l1 : (zs.take k).length = k := by simp; omega
  have e1 : zs.take (k + 1) = zs.take k ++ [zs.getD k 0] := by
    rw [List.take_succ_eq_append_getElem (by omega), List.getD_eq_getElem?_getD, List.getElem?_eq_getElem (by omega)]; rfl
  have e2 : (dgn n (nv (zs.take n) / d)).drop k = (nv (zs.take n) / d / 4294967296 ^ k % 4294967296) :: (dgn n (nv (zs.take n) / d)).drop (k + 1) := by
    rw [List.drop_eq_getElem_cons (by rw [dgn_length]; exact hk)]
    congr 1
    rw [← dgn_getD n _ k hk, List.getD_eq_getElem?_getD, List.getElem?_eq_getElem (by rw [dgn_length]; exact hk)]; rfl
  unfold divT
  rw [e1, e2, List.append_assoc, List.set_append_right _ _ (by omega), l1, Nat.sub_self]
  simp
theorem divT_start {zs : List Nat} {n d : Nat} (hn : n ≤ zs.length) : divT zs n d n = zs ∧ remT zs n d n = 0 := by
  constructor
  · unfold divT
    rw [List.drop_of_length_le (by rw [dgn_length]; exact Nat.le_refl _), List.nil_append, List.take_append_drop]
  · unfold remT
    rw [List.drop_of_length_le (by simp; omega)]; simp [nv]
theorem divT_end (zs : List Nat) (n d : Nat) : divT zs n d 0 = dgn n (nv (zs.take n) / d) ++ zs.drop n ∧ remT zs n d 0 = nv (zs.take n) % d := by
  simp [divT, remT]
theorem divT_dig {zs : List Nat} {n d k : Nat} (hz : Dig zs) : Dig (divT zs n d k) := by
  unfold divT
  exact Dig.app.2 ⟨hz.take k, Dig.app.2 ⟨(dgn_dig _ _).drop k, hz.drop n⟩⟩
theorem nv_take_tn (zs : List Nat) : ∀ n, n ≤ zs.length → nv (zs.take (tn zs n)) = nv (zs.take n)
  | 0, _ => rfl
  | n + 1, h => by
    simp only [tn]
    split
    · rename_i h0
      rw [nv_take_tn zs n (by omega), nv_take_succ zs n (by omega), h0]; simp
    · rfl
theorem nv_tn_pos (zs : List Nat) : ∀ n, n ≤ zs.length → 0 < tn zs n → 0 < nv (zs.take (tn zs n))
  | 0, _, h0 => by simp [tn] at h0
  | n + 1, h, h0 => by
    simp only [tn] at h0 ⊢
    split at h0
    · rename_i h1
      rw [if_pos h1]; exact nv_tn_pos zs n (by omega) h0
    · rename_i h1
      rw [if_neg h1, nv_take_succ zs n (by omega)]
      have := Nat.mul_pos (show 0 < zs.getD n 0 by omega) (pow_pos32 n)
      omega
theorem rest_step {zs : List Nat} {n d : Nat} (hz : Dig zs) (hn : n ≤ zs.length) (hd : 0 < d) :
    (dgn n (nv (zs.take n) / d) ++ zs.drop n).length = zs.length ∧ Dig (dgn n (nv (zs.take n) / d) ++ zs.drop n) ∧ nv ((dgn n (nv (zs.take n) / d) ++ zs.drop n).take (tn (dgn n (nv (zs.take n) / d) ++ zs.drop n) n)) = nv (zs.take n) / d := by
  have hl : (dgn n (nv (zs.take n) / d) ++ zs.drop n).length = zs.length := by simp [dgn_length]; omega
  refine ⟨hl, Dig.app.2 ⟨dgn_dig _ _, hz.drop n⟩, ?_⟩
  rw [nv_take_tn _ _ (by omega)]
  have e : (dgn n (nv (zs.take n) / d) ++ zs.drop n).take n = dgn n (nv (zs.take n) / d) := by
    rw [List.take_append_of_le_length (by rw [dgn_length]; exact Nat.le_refl _)]
    exact List.take_of_length_le (by rw [dgn_length]; exact Nat.le_refl _)
  have hb := nv_lt (hz.take n)
  rw [show (zs.take n).length = n by simp; omega] at hb
  rw [e, nv_dgn, Nat.mod_eq_of_lt (Nat.lt_of_le_of_lt (Nat.div_le_self _ _) hb)]
theorem groups_le {V k L : Nat} (h : 0 < V / 10 ^ (9 * k)) (hV : V < 4294967296 ^ L) : k ≤ 2 * L := by
  refine Classical.byContradiction fun hn => ?_
  have hp : 0 < 10 ^ (9 * k) := Nat.pow_pos (by decide)
  have h1 : 10 ^ (9 * k) ≤ V := (Nat.div_pos_iff.1 h).2
  have h2 : 65536 ^ (2 * L) ≤ 65536 ^ k := Nat.pow_le_pow_right (by decide) (by omega)
  have h3 : 65536 ^ k ≤ (10 ^ 9) ^ k := Nat.pow_le_pow_left (by decide) k
  have h4 : 65536 ^ (2 * L) = 4294967296 ^ L := by rw [Nat.pow_mul]
  rw [← Nat.pow_mul] at h3
  omega
def u8s (xs : List Nat) : List D := xs.map fun (x : Nat) => D.v (.int .u8 (x : Int))
theorem u8s_nameless (xs : List Nat) : NamelessL (u8s xs) := NamelessL.map _ (fun _ => by simp [Nameless]) xs
theorem u8s_length (xs : List Nat) : (u8s xs).length = xs.length := by simp [u8s]
theorem u8s_cell (xs : List Nat) (i : Nat) : cellInt ((u8s xs).getD i default) = (xs.getD i 0 : Nat) := by
  simp only [u8s, List.getD_eq_getElem?_getD, List.getElem?_map]
  cases xs[i]? <;> rfl
theorem u8s_isInt (xs : List Nat) (i : Nat) (h : i < xs.length) : IsInt .u8 ((u8s xs).getD i default) = True := by
  simp only [u8s, List.getD_eq_getElem?_getD, List.getElem?_map, List.getElem?_eq_getElem h, Option.map_some, Option.getD_some, eq_iff_iff, iff_true]
  exact rfl
theorem u8s_take (xs : List Nat) (n : Nat) : (u8s xs).take n = u8s (xs.take n) := by simp [u8s]
theorem u8s_append (xs ys : List Nat) : u8s xs ++ u8s ys = u8s (xs ++ ys) := by simp [u8s]
theorem u8s_put (o : List Nat) (j x : Nat) : (u8s o).set j (.v (.int .u8 (x : Int))) = u8s (o.set j x) := by simp [u8s]
def unb (ds : List D) : List Nat := ds.map fun d => (cellInt d).toNat
theorem unb_u8s (xs : List Nat) : unb (u8s xs) = xs := by
  simp [unb, u8s, cellInt, Function.comp_def]
theorem u8s_all (xs : List Nat) : AllU8 (u8s xs) := fun d hd => by
  simp only [u8s, List.mem_map] at hd
  obtain ⟨x, _, rfl⟩ := hd
  exact rfl
def dd : Nat → Nat → List Nat
  | 0, _ => []
  | k + 1, v => (48 + v % 10) :: dd k (v / 10)
theorem dd_length : ∀ k v, (dd k v).length = k
  | 0, v => rfl
  | k + 1, v => by simp [dd, dd_length k]
theorem dd_add : ∀ k m v, dd (k + m) v = dd k v ++ dd m (v / 10 ^ k)
  | 0, m, v => by simp [dd]
  | k + 1, m, v => by
    rw [show k + 1 + m = (k + m) + 1 by omega, dd, dd, dd_add k m, List.cons_append, Nat.div_div_eq_div_mul, Nat.pow_succ, Nat.mul_comm 10]
theorem dd_succ (k v : Nat) : dd (k + 1) v = dd k v ++ [48 + v / 10 ^ k % 10] := by rw [dd_add k 1]; rfl
theorem dd_mod : ∀ k v x, dd k (v + 10 ^ k * x) = dd k v
  | 0, v, x => rfl
  | k + 1, v, x => by
    have e : v + 10 ^ (k + 1) * x = v + 10 * (10 ^ k * x) := by rw [Nat.pow_succ]; grind
    have e1 : (v + 10 * (10 ^ k * x)) % 10 = v % 10 := by omega
    have e2 : (v + 10 * (10 ^ k * x)) / 10 = v / 10 + 10 ^ k * x := by omega
    rw [dd, dd, e, e1, e2, dd_mod k]
theorem chr8 {q : Nat} : IntKind.u8.wrap (48 + IntKind.u8.wrap ((q : Int).tmod 10)) = ((48 + q % 10 : Nat) : Int) := by
  rw [Int.tmod_eq_emod_of_nonneg (by omega), wrap_u8, wrap_u8]; omega
theorem chr8b {q : Nat} : IntKind.u8.wrap (IntKind.u32.wrap (48 + (q : Int).tmod 10)) = ((48 + q % 10 : Nat) : Int) := by
  rw [Int.tmod_eq_emod_of_nonneg (by omega), wrap_u8, wrap_u32]; omega
theorem quo10 {q : Nat} (h : q < 4294967296) : IntKind.u32.wrap ((q : Int).tdiv 10) = ((q / 10 : Nat) : Int) := by
  rw [Int.tdiv_eq_ediv_of_nonneg (by omega), wrap_u32]; omega
theorem dd_group (k V : Nat) : dd (9 * k) V ++ dd 9 (V / 10 ^ (9 * k) % 1000000000) = dd (9 * (k + 1)) V := by
  rw [show 9 * (k + 1) = 9 * k + 9 by omega, dd_add (9 * k) 9]
  congr 1
  have := dd_mod 9 (V / 10 ^ (9 * k) % 1000000000) (V / 10 ^ (9 * k) / 1000000000)
  rw [← this, show (10 : Nat) ^ 9 = 1000000000 by rfl, Nat.mod_add_div]
def nd (v : Nat) : Nat := if h : v = 0 then 0 else nd (v / 10) + 1
termination_by v
decreasing_by omega
theorem nd_eq : ∀ (j v : Nat), 10 ^ j ≤ v → v < 10 ^ (j + 1) → nd v = j + 1
  | 0, v, h1, h2 => by
    unfold nd
    rw [dif_neg (by omega), show v / 10 = 0 by omega]
    unfold nd; simp
  | j + 1, v, h1, h2 => by
    have h3 : 10 ^ j ≤ v / 10 := by rw [Nat.le_div_iff_mul_le (by decide), ← Nat.pow_succ]; exact h1
    have h4 : v / 10 < 10 ^ (j + 1) := by rw [Nat.div_lt_iff_lt_mul (by decide), ← Nat.pow_succ]; exact h2
    have := nd_eq j (v / 10) h3 h4
    have : 0 < 10 ^ (j + 1) := Nat.pow_pos (by decide)
    unfold nd
    rw [dif_neg (by omega)]; omega
theorem dd_getD : ∀ k v j, j < k → (dd k v).getD j 0 = 48 + v / 10 ^ j % 10
  | 0, v, j, h => by omega
  | k + 1, v, 0, h => by simp [dd]
  | k + 1, v, j + 1, h => by
    have := dd_getD k (v / 10) j (by omega)
    rw [dd, List.getD_cons_succ, this, Nat.div_div_eq_div_mul, Nat.pow_succ, Nat.mul_comm 10]
theorem dd_take {k j : Nat} (h : j ≤ k) (v : Nat) : (dd k v).take j = dd j v := by
  rw [show k = j + (k - j) by omega, dd_add, List.take_append_of_le_length (by rw [dd_length]; exact Nat.le_refl _)]
  exact List.take_of_length_le (by rw [dd_length]; exact Nat.le_refl _)
theorem lead_zero {v n : Nat} (h : v < 10 ^ (n + 1)) (h0 : v / 10 ^ n % 10 = 0) : v < 10 ^ n := by
  have hp : 0 < 10 ^ n := Nat.pow_pos (by decide)
  have h1 : v / 10 ^ n < 10 := by rw [Nat.div_lt_iff_lt_mul hp, Nat.mul_comm, ← Nat.pow_succ]; exact h
  have h2 : v / 10 ^ n = 0 := by clear h; generalize v / 10 ^ n = q at *; omega
  rcases Nat.lt_or_ge v (10 ^ n) with h3 | h3
  · exact h3
  · have := Nat.div_pos h3 hp; omega
theorem lead_some {v n : Nat} (h : v < 10 ^ (n + 1)) (h0 : v / 10 ^ n % 10 ≠ 0) : nd v = n + 1 := by
  have hp : 0 < 10 ^ n := Nat.pow_pos (by decide)
  refine nd_eq n v ?_ h
  rcases Nat.lt_or_ge v (10 ^ n) with h3 | h3
  · rw [Nat.div_eq_of_lt h3] at h0; simp at h0
  · exact h3
def decL (neg : Bool) (v : Nat) : List Nat := (dd (nd v) v ++ bif neg then [45] else []).reverse
theorem rev_take {m : Nat} {L : List Nat} (h : m ≤ L.length) : (u8s ((L.take m).reverse ++ L.drop m)).take m = u8s (L.take m).reverse := by
  have hl : (L.take m).reverse.length = m := by simp; omega
  rw [u8s_take, List.take_append_of_le_length (by omega)]
  congr 1
  exact List.take_of_length_le (by omega)
def revT (xs : List Nat) (i : Nat) : List Nat := (List.range xs.length).map fun k => if k < i ∨ xs.length ≤ k + i then xs.getD (xs.length - 1 - k) 0 else xs.getD k 0
theorem revT_length (xs : List Nat) (i : Nat) : (revT xs i).length = xs.length := by simp [revT]
theorem revT_start (xs : List Nat) : revT xs 0 = xs := by
  apply List.ext_getElem (by simp [revT])
  intro k h1 h2
  simp [revT]
  rw [if_neg (by omega)]
  simp [h2]
theorem revT_end {xs : List Nat} {i : Nat} (h : xs.length ≤ i + i + 1) : revT xs i = xs.reverse := by
  apply List.ext_getElem (by simp [revT])
  intro k h1 h2
  simp only [List.length_reverse] at h2
  simp only [revT, List.getElem_map, List.getElem_range, List.getElem_reverse]
  split
  · rw [List.getD_eq_getElem?_getD, List.getElem?_eq_getElem (by omega)]; rfl
  · rename_i hh
    rw [List.getD_eq_getElem?_getD, List.getElem?_eq_getElem (by omega)]
    simp only [Option.getD_some]
    congr 1; omega
theorem revT_get {xs : List Nat} {i k : Nat} (hk : k < xs.length) : (revT xs i).getD k 0 = if k < i ∨ xs.length ≤ k + i then xs.getD (xs.length - 1 - k) 0 else xs.getD k 0 := by
  rw [List.getD_eq_getElem?_getD, List.getElem?_eq_getElem (by rw [revT_length]; exact hk)]
  simp [revT]
theorem revT_step {xs : List Nat} {i : Nat} (h : i + i + 1 < xs.length) : ((revT xs i).set i ((revT xs i).getD (xs.length - 1 - i) 0)).set (xs.length - 1 - i) ((revT xs i).getD i 0) = revT xs (i + 1) := by
  have ga := revT_get (i := i) (show xs.length - 1 - i < xs.length by omega)
  have gb := revT_get (i := i) (show i < xs.length by omega)
  generalize (revT xs i).getD (xs.length - 1 - i) 0 = a at *
  generalize (revT xs i).getD i 0 = b at *
  subst ga; subst gb
  apply List.ext_getElem (by simp [revT])
  intro k h1 h2
  rw [revT_length] at h2
  simp only [List.getElem_set, revT, List.getElem_map, List.getElem_range]
  by_cases k1 : xs.length - 1 - i = k
  · subst k1
    rw [if_pos rfl, if_neg (by omega), if_pos (by omega)]
    congr 1; omega
  · rw [if_neg k1]
    by_cases k2 : i = k
    · subst k2
      rw [if_pos rfl, if_neg (by omega), if_pos (by omega)]
    · rw [if_neg k2]
      by_cases k3 : k < i ∨ xs.length ≤ k + i
      · rw [if_pos k3, if_pos (by omega)]
      · rw [if_neg k3, if_neg (by omega)]
end Go.Proofs.Ythnhfkpihbjddaa
end
section
namespace Go.Proofs.Ythnhfkpihbjddaa
open Go.VD
set_option linter.unusedVariables false
set_option linter.unusedSimpArgs false
def uS (off : Nat) (zs : List Nat) (i : Nat) : Nat := nv ((zs.drop off).take i)
def bS (off : Nat) (zs ys : List Nat) (k i : Nat) : Nat := (k * nv (ys.take i) + (4294967296 ^ i - 1) - uS off zs i) / 4294967296 ^ i
def vS (off : Nat) (zs ys : List Nat) (k i : Nat) : Nat := uS off zs i + 4294967296 ^ i * bS off zs ys k i - k * nv (ys.take i)
def subT (off : Nat) (zs ys : List Nat) (k i : Nat) : List Nat := zs.take off ++ (dgn i (vS off zs ys k i) ++ zs.drop (off + i))
theorem borrow_uniq {U P b r K : Nat} (hr : r < P) (hU : U < P) (h : U + P * b = r + K) : (K + (P - 1) - U) / P = b := by
  have e : K + (P - 1) - U = P * b + (P - 1 - r) := by omega
  rw [e, Nat.mul_add_div (by omega), Nat.div_eq_of_lt (by omega), Nat.add_zero]
theorem uS_lt {off : Nat} {zs : List Nat} {i : Nat} (hz : Dig zs) (h : off + i ≤ zs.length) : uS off zs i < 4294967296 ^ i := by
  have a := nv_lt ((hz.drop off).take i)
  have la : ((zs.drop off).take i).length = i := by simp; omega
  rwa [la] at a
theorem borrow_spec {U P K : Nat} (hP : 0 < P) (hU : U < P) : ∃ r, r < P ∧ U + P * ((K + (P - 1) - U) / P) = r + K := by
  have e := Nat.div_add_mod (K + (P - 1) - U) P
  have l := Nat.mod_lt (K + (P - 1) - U) hP
  generalize (K + (P - 1) - U) / P = b at *
  generalize (K + (P - 1) - U) % P = m at *
  generalize P * b = Pb at *
  exact ⟨P - 1 - m, by omega, by omega⟩
theorem vS_spec {off : Nat} {zs ys : List Nat} {k i : Nat} (hz : Dig zs) (h : off + i ≤ zs.length) : vS off zs ys k i < 4294967296 ^ i ∧ uS off zs i + 4294967296 ^ i * bS off zs ys k i = vS off zs ys k i + k * nv (ys.take i) := by
  obtain ⟨r, h1, h2⟩ := borrow_spec (K := k * nv (ys.take i)) (pow_pos32 i) (uS_lt hz h)
  unfold vS bS
  rw [h2]; omega
theorem subT_length {off : Nat} {zs ys : List Nat} {k i : Nat} (h : off + i ≤ zs.length) : (subT off zs ys k i).length = zs.length := by
  simp [subT, dgn_length]; omega
theorem subT_get {off : Nat} {zs ys : List Nat} {k i : Nat} (h1 : off + i < zs.length) : (subT off zs ys k i).getD (off + i) 0 = zs.getD (off + i) 0 := by
  unfold subT
  have l1 : (zs.take off).length = off := by simp; omega
  rw [List.getD_eq_getElem?_getD, List.getElem?_append_right (by omega), l1, show off + i - off = i by omega, List.getElem?_append_right (by rw [dgn_length]; exact Nat.le_refl _), dgn_length, Nat.sub_self, List.getElem?_drop, Nat.add_zero, ← List.getD_eq_getElem?_getD]
theorem subT_step {off : Nat} {zs ys : List Nat} {k i : Nat} (hz : Dig zs) (h1 : off + i < zs.length) (h2 : i < ys.length) :
    bS off zs ys k (i + 1) = (ys.getD i 0 * k + bS off zs ys k i) / 4294967296 + (if zs.getD (off + i) 0 < (ys.getD i 0 * k + bS off zs ys k i) % 4294967296 then 1 else 0) ∧
    vS off zs ys k (i + 1) = vS off zs ys k i + 4294967296 ^ i * ((zs.getD (off + i) 0 + 4294967296 - (ys.getD i 0 * k + bS off zs ys k i) % 4294967296) % 4294967296) := by
  obtain ⟨r1, e1⟩ := vS_spec (ys := ys) (k := k) hz (show off + i ≤ zs.length by omega)
  obtain ⟨r2, e2⟩ := vS_spec (ys := ys) (k := k) hz (show off + (i + 1) ≤ zs.length by omega)
  have hu2 := uS_lt hz (show off + (i + 1) ≤ zs.length by omega)
  have eu : uS off zs (i + 1) = uS off zs i + 4294967296 ^ i * zs.getD (off + i) 0 := by
    unfold uS
    rw [nv_take_succ _ i (by simp; omega), getD_drop, Nat.mul_comm]
  have ev : nv (ys.take (i + 1)) = nv (ys.take i) + 4294967296 ^ i * ys.getD i 0 := by rw [nv_take_succ _ i h2, Nat.mul_comm]
  have hd := hz.get (off + i)
  have eb : ∀ r b, r < 4294967296 ^ (i + 1) → uS off zs (i + 1) + 4294967296 ^ (i + 1) * b = r + k * nv (ys.take (i + 1)) → bS off zs ys k (i + 1) = b := fun r b h h' => borrow_uniq h hu2 h'
  rw [eu, ev] at eb e2
  rw [Nat.pow_succ] at eb e2 r2
  generalize bS off zs ys k (i + 1) = b2 at *
  generalize vS off zs ys k (i + 1) = v2 at *
  generalize vS off zs ys k i = v1 at *
  generalize bS off zs ys k i = b1 at *
  generalize uS off zs i = U at *
  generalize nv (ys.take i) = V at *
  generalize 4294967296 ^ i = P at *
  generalize zs.getD (off + i) 0 = u at *
  generalize ys.getD i 0 = v at *
  have ht := Nat.div_add_mod (v * k + b1) 4294967296
  have hl := Nat.mod_lt (v * k + b1) (show 0 < 4294967296 by decide)
  generalize (v * k + b1) % 4294967296 = low at *
  generalize (v * k + b1) / 4294967296 = hi at *
  have key : ∀ d c, u + 4294967296 * c = d + low → U + P * u + P * 4294967296 * (hi + c) = v1 + P * d + k * (V + P * v) := by
    intro d c hdc
    have m1 : P * (u + 4294967296 * c) = P * (d + low) := by rw [hdc]
    have m2 : P * (4294967296 * hi + low) = P * (v * k + b1) := by rw [ht]
    grind
  have rng : ∀ d, d < 4294967296 → v1 + P * d < P * 4294967296 := by
    intro d h
    have : P * (d + 1) ≤ P * 4294967296 := Nat.mul_le_mul_left _ h
    rw [Nat.mul_add] at this; omega
  by_cases hlt : u < low
  · rw [if_pos hlt]
    have hdd : (u + 4294967296 - low) % 4294967296 = u + 4294967296 - low := Nat.mod_eq_of_lt (by omega)
    rw [hdd]
    have k1 := key (u + 4294967296 - low) 1 (by omega)
    have e := eb _ _ (rng (u + 4294967296 - low) (by omega)) k1
    refine ⟨e, ?_⟩
    rw [e] at e2
    omega
  · rw [if_neg hlt]
    have hdd : (u + 4294967296 - low) % 4294967296 = u - low := by omega
    rw [hdd]
    have k1 := key (u - low) 0 (by omega)
    have e := eb _ _ (rng (u - low) (by omega)) k1
    refine ⟨e, ?_⟩
    rw [e] at e2
    omega
theorem subT_set {off : Nat} {zs ys : List Nat} {k i : Nat} (hz : Dig zs) (h1 : off + i < zs.length) (h2 : i < ys.length) :
    (subT off zs ys k i).set (off + i) ((zs.getD (off + i) 0 + 4294967296 - (ys.getD i 0 * k + bS off zs ys k i) % 4294967296) % 4294967296) = subT off zs ys k (i + 1) := by
  have l1 : (zs.take off).length = off := by simp; omega
  obtain ⟨r1, _⟩ := vS_spec (ys := ys) (k := k) hz (show off + i ≤ zs.length by omega)
  have st := (subT_step (k := k) hz h1 h2).2
  unfold subT
  rw [dgn_succ, st, dgn_mod, Nat.add_mul_div_left _ _ (pow_pos32 i), Nat.div_eq_of_lt r1, Nat.zero_add, Nat.mod_mod]
  rw [List.set_append_right _ _ (by omega), l1, show off + i - off = i by omega, List.set_append_right _ _ (by rw [dgn_length]; exact Nat.le_refl _), dgn_length, Nat.sub_self, List.drop_eq_getElem_cons h1]
  simp [Nat.add_assoc]
theorem subT_nil (off : Nat) (zs ys : List Nat) (k : Nat) : subT off zs ys k 0 = zs ∧ bS off zs ys k 0 = 0 := by
  simp [subT, bS, uS, dgn, nv]
theorem subT_dig {off : Nat} {zs ys : List Nat} {k i : Nat} (hz : Dig zs) : Dig (subT off zs ys k i) := by
  unfold subT
  exact Dig.app.2 ⟨hz.take _, Dig.app.2 ⟨dgn_dig _ _, hz.drop _⟩⟩
theorem bS_le {off : Nat} {zs ys : List Nat} {k i : Nat} (hy : Dig ys) (hz : Dig zs) (h1 : off + i ≤ zs.length) (h2 : i ≤ ys.length) : bS off zs ys k i ≤ k := by
  have hv := nv_lt (hy.take i)
  rw [show (ys.take i).length = i by simp; omega] at hv
  unfold bS
  have hp := pow_pos32 i
  generalize 4294967296 ^ i = P at *
  generalize nv (ys.take i) = V at *
  have h3 : k * V ≤ k * (P - 1) := Nat.mul_le_mul_left _ (by omega)
  refine Nat.le_of_lt_succ ((Nat.div_lt_iff_lt_mul hp).2 ?_)
  rw [Nat.succ_mul]
  have h4 : k * (P - 1) ≤ k * P := Nat.mul_le_mul_left _ (by omega)
  omega
section
variable {U V P v1 v2 top u0 Vl Ul g : Nat}
theorem guess_down (hV : V = (v1 * 4294967296 + v2) * P + Vl) (hU : U = (top * 4294967296 + u0) * P + Ul) (hUl : Ul < P) (hv : 0 < V) (h : top * 4294967296 + u0 < g * (v1 * 4294967296 + v2)) : U / V < g := by
  rw [Nat.div_lt_iff_lt_mul hv]
  have h1 : (top * 4294967296 + u0 + 1) * P ≤ g * (v1 * 4294967296 + v2) * P := Nat.mul_le_mul_right _ h
  have h2 : g * V = g * (v1 * 4294967296 + v2) * P + g * Vl := by rw [hV]; grind
  rw [Nat.add_mul, Nat.one_mul] at h1
  omega
theorem guess_init (hV : V = (v1 * 4294967296 + v2) * P + Vl) (hU : U = (top * 4294967296 + u0) * P + Ul) (hUl : Ul < P) (hu0 : u0 < 4294967296) (hv : 0 < v1) (hv0 : 0 < V) : U / V ≤ top / v1 := by
  refine Nat.le_of_lt_succ ?_
  rw [Nat.div_lt_iff_lt_mul hv0]
  have h0 : top + 1 ≤ (top / v1 + 1) * v1 := by
    have := Nat.div_add_mod top v1
    have := Nat.mod_lt top hv
    rw [Nat.add_mul, Nat.mul_comm (top / v1)]; omega
  generalize top / v1 = g at *
  have h1 : (top + 1) * (4294967296 * P) ≤ (g + 1) * v1 * (4294967296 * P) := Nat.mul_le_mul_right _ h0
  have h2 : (g + 1) * V = (g + 1) * v1 * (4294967296 * P) + (g + 1) * (v2 * P + Vl) := by rw [hV]; grind
  have h3 : (u0 + 1) * P ≤ 4294967296 * P := Nat.mul_le_mul_right _ hu0
  have h4 : U = top * (4294967296 * P) + u0 * P + Ul := by rw [hU]; grind
  rw [Nat.add_mul, Nat.one_mul] at h1 h3
  show U < (g + 1) * V
  omega
theorem guess_exit (hV : V = (v1 * 4294967296 + v2) * P + Vl) (hVl : Vl < P) (hU : U = (top * 4294967296 + u0) * P + Ul) (hv : 0 < v1) (hg : g < 4294967296) (h : g * (v1 * 4294967296 + v2) ≤ top * 4294967296 + u0) : g ≤ U / V + 1 := by
  have hv0 : 0 < V := by
    have : 0 < P := by omega
    have : 0 < (v1 * 4294967296 + v2) * P := Nat.mul_pos (by omega) this
    omega
  rcases Nat.eq_zero_or_pos g with h0 | h0
  · subst h0; exact Nat.zero_le _
  · have : g - 1 ≤ U / V := by
      rw [Nat.le_div_iff_mul_le hv0]
      have h1 : g * (v1 * 4294967296 + v2) * P ≤ (top * 4294967296 + u0) * P := Nat.mul_le_mul_right _ h
      have h2 : g * V = g * (v1 * 4294967296 + v2) * P + g * Vl := by rw [hV]; grind
      have h3 : g * Vl ≤ 4294967296 * P := Nat.mul_le_mul (by omega) (by omega)
      have h4 : 1 * 4294967296 * P ≤ (v1 * 4294967296 + v2) * P := Nat.mul_le_mul_right _ (by omega)
      rw [Nat.sub_mul, Nat.one_mul]
      omega
    omega
end
theorem nv_top {ys : List Nat} {n : Nat} (hn : 2 ≤ n) (hl : ys.length = n) : nv ys = (ys.getD (n - 1) 0 * 4294967296 + ys.getD (n - 2) 0) * 4294967296 ^ (n - 2) + nv (ys.take (n - 2)) := by
  have e := nv_append (ys.take (n - 2)) (ys.drop (n - 2))
  rw [List.take_append_drop, show (ys.take (n - 2)).length = n - 2 by simp; omega, nv_drop_succ, nv_drop_succ, nv_drop_ge (show ys.length ≤ n - 2 + 1 + 1 by omega), show n - 2 + 1 = n - 1 by omega] at e
  rw [e]
  generalize 4294967296 ^ (n - 2) = P
  grind
theorem nv_top3 {off n : Nat} {zs : List Nat} (hn : 2 ≤ n) (hl : off + n + 1 ≤ zs.length) : uS off zs (n + 1) = ((zs.getD (off + n) 0 * 4294967296 + zs.getD (off + (n - 1)) 0) * 4294967296 + zs.getD (off + (n - 2)) 0) * 4294967296 ^ (n - 2) + uS off zs (n - 2) := by
  have s : ∀ i, off + i < zs.length → uS off zs (i + 1) = uS off zs i + zs.getD (off + i) 0 * 4294967296 ^ i := fun i hi => by
    unfold uS
    rw [nv_take_succ _ i (by simp; omega), getD_drop]
  obtain ⟨m, rfl⟩ : ∃ m, n = m + 2 := ⟨n - 2, by omega⟩
  have s1 := s (m + 2) (by omega)
  have s2 := s (m + 1) (by omega)
  have s3 := s m (by omega)
  rw [show m + 1 + 1 = m + 2 by rfl] at s2
  have p1 : (4294967296 : Nat) ^ (m + 1) = 4294967296 ^ m * 4294967296 := Nat.pow_succ ..
  have p2 : (4294967296 : Nat) ^ (m + 2) = 4294967296 ^ m * 4294967296 * 4294967296 := by rw [Nat.pow_succ, Nat.pow_succ]
  rw [show m + 2 - 1 = m + 1 by omega, show m + 2 - 2 = m by omega]
  rw [s1, s2, s3, p1, p2]
  generalize 4294967296 ^ m = P
  grind
theorem quot_fin {off n : Nat} {zs ys : List Nat} {g : Nat} (hz : Dig zs) (hy : Dig ys) (hl : off + n + 1 ≤ zs.length) (hn : ys.length = n) (hV : 0 < nv ys) (hU : uS off zs (n + 1) < 4294967296 * nv ys)
    (h1 : uS off zs (n + 1) / nv ys ≤ g) (h2 : g ≤ uS off zs (n + 1) / nv ys + 1) :
    (bS off zs ys g n ≤ zs.getD (off + n) 0 → g = uS off zs (n + 1) / nv ys ∧ subT off zs ys g n = zs.take off ++ (dgn n (uS off zs (n + 1) % nv ys) ++ zs.drop (off + n))) ∧
    (zs.getD (off + n) 0 < bS off zs ys g n → g = uS off zs (n + 1) / nv ys + 1 ∧ addT off (subT off zs ys g n) ys 1 n = zs.take off ++ (dgn n (uS off zs (n + 1) % nv ys) ++ zs.drop (off + n))) := by
  have eU : uS off zs (n + 1) = uS off zs n + 4294967296 ^ n * zs.getD (off + n) 0 := by
    unfold uS
    rw [nv_take_succ _ n (by simp; omega), getD_drop, Nat.mul_comm]
  obtain ⟨r1, e1⟩ := vS_spec (ys := ys) (k := g) hz (show off + n ≤ zs.length by omega)
  have ht : ys.take n = ys := by rw [← hn, List.take_length]
  rw [ht] at e1
  have hlu := uS_lt hz (show off + n ≤ zs.length by omega)
  have hvl : nv ys < 4294967296 ^ n := by have := nv_lt hy; rwa [hn] at this
  have hdm := Nat.div_add_mod (uS off zs (n + 1)) (nv ys)
  have hml := Nat.mod_lt (uS off zs (n + 1)) hV
  have l1 : (zs.take off).length = off := by simp; omega
  have seg : (((subT off zs ys g n).drop off).take n) = dgn n (vS off zs ys g n) := by
    unfold subT
    rw [List.drop_append_of_le_length (by omega), List.drop_eq_nil_of_le (by omega), List.nil_append, List.take_append_of_le_length (by rw [dgn_length]; exact Nat.le_refl _)]
    exact List.take_of_length_le (by rw [dgn_length]; exact Nat.le_refl _)
  have tk : (subT off zs ys g n).take off = zs.take off := by
    unfold subT
    rw [List.take_append_of_le_length (by omega)]; exact List.take_of_length_le (by omega)
  have dr : (subT off zs ys g n).drop (off + n) = zs.drop (off + n) := by
    unfold subT
    rw [← List.append_assoc, List.drop_append, List.drop_eq_nil_of_le (by rw [List.length_append, l1, dgn_length]; omega), List.length_append, l1, dgn_length, Nat.sub_self]
    rfl
  have hw : wT off (subT off zs ys g n) ys 1 n = vS off zs ys g n + nv ys := by
    unfold wT; rw [seg, nv_dgn, Nat.mod_eq_of_lt r1, ht, Nat.one_mul]
  have key : g = uS off zs (n + 1) / nv ys ∨ g = uS off zs (n + 1) / nv ys + 1 := by omega
  generalize hq : uS off zs (n + 1) / nv ys = q at *
  generalize hr : uS off zs (n + 1) % nv ys = r at *
  generalize hb : bS off zs ys g n = b at *
  generalize hv : vS off zs ys g n = v at *
  rw [eU] at hdm
  generalize zs.getD (off + n) 0 = u at *
  generalize uS off zs n = L at *
  generalize nv ys = V at *
  have hsub : subT off zs ys g n = zs.take off ++ (dgn n v ++ zs.drop (off + n)) := by unfold subT; rw [hv]
  have hadd : addT off (subT off zs ys g n) ys 1 n = zs.take off ++ (dgn n (v + V) ++ zs.drop (off + n)) := by unfold addT; rw [hw, tk, dr]
  rw [hsub] at hadd
  rw [hsub, hadd]
  generalize hP : 4294967296 ^ n = P at *
  have pm : ∀ a c, P * a < P * c → a < c := fun a c h => Nat.lt_of_mul_lt_mul_left h
  have pl : ∀ a c, a ≤ c → P * a ≤ P * c := fun a c h => Nat.mul_le_mul_left _ h
  rcases key with hk | hk
  · subst hk
    have ebase : v + P * u = r + P * b := by
      have c := Nat.mul_comm V g
      rw [c] at hdm; omega
    have hbu : b ≤ u := by
      refine Nat.le_of_not_lt fun h => ?_
      have := pl (u + 1) b h
      rw [Nat.mul_add] at this
      omega
    have hub : u ≤ b := by
      refine Nat.le_of_not_lt fun h => ?_
      have := pl (b + 1) u h
      rw [Nat.mul_add] at this
      omega
    have : u = b := by omega
    subst this
    refine ⟨fun _ => ⟨rfl, ?_⟩, fun h => by omega⟩
    rw [show v = r by omega]
  · subst hk
    have ebase : v + V + P * u = r + P * b := by
      have c : (q + 1) * V = V * q + V := by rw [Nat.add_mul, Nat.mul_comm q, Nat.one_mul]
      rw [c] at e1; omega
    have hub : u < b := by
      refine Nat.lt_of_not_le fun h => ?_
      have := pl b u h
      omega
    have hb1 : b ≤ u + 1 := by
      refine Nat.le_of_not_lt fun h => ?_
      have := pl (u + 2) b h
      rw [Nat.mul_add] at this
      omega
    have : b = u + 1 := by omega
    subst this
    refine ⟨fun h => by omega, fun _ => ⟨rfl, ?_⟩⟩
    rw [Nat.mul_add, Nat.mul_one] at ebase
    have hv2 : v + V = r + 4294967296 ^ n * 1 := by omega
    rw [hv2, dgn_mod]
end Go.Proofs.Ythnhfkpihbjddaa
end
