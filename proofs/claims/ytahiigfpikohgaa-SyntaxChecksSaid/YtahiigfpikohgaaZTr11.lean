import Derived.Test.YtahiigfpikohgaaZTr10
section
namespace Go.VD
set_option linter.unusedVariables false
set_option linter.unusedSimpArgs false
theorem CallJ.frameAtS {P : Program} {f : FuncId} {off n : Nat} {c : Cap} {plain : List D} {blk blk' : Blk} {o m : Nat} {c2 : Cap} (h : CallJ P f (.sl 0 off n c :: plain) [some blk] (.sl 0 o m c2) [some blk']) (hpl : NamelessL plain) (hc : NamelessL blk.cs) (hc' : NamelessL blk'.cs)
    {H : Heap} {b : Nat} (hb : H[b]? = some (some blk)) : CallJ P f (.sl b off n c :: plain) H (.sl b o m c2) (H.set b (some blk')) := by
  have hbl : b < H.length := (List.getElem?_eq_some_iff.1 hb).1
  refine ⟨h.1, fun ρ S w vals hS hv => ?_⟩
  have live1 : ∀ k, Live (fun _ => ρ b) [some blk] k → 0 < (ρ b).2 ∧ (ρ b).1 = k := by
    rintro k ⟨i, bl, hi, hz, e⟩
    exact ⟨hz, e⟩
  have live1H : ∀ k, Live (fun _ => ρ b) [some blk] k → Live ρ H k := fun k hk => ⟨b, blk, hb, (live1 k hk).1, (live1 k hk).2⟩
  have hS1 : St (fun _ => ρ b) S w [some blk] := by
    refine ⟨fun k hk => ⟨(hS.sub k hk).1, fun hl => (hS.sub k hk).2 (live1H k hl)⟩, fun i bl hi hz => ?_, fun i bl hi hz => ?_, fun i j bi bj hi hj _ _ _ => ?_, hS.glob⟩
    · cases i with
      | zero => simp at hi; subst hi; exact hS.none b _ hb hz
      | succ i => simp at hi
    · cases i with
      | zero =>
        simp at hi; subst hi
        obtain ⟨cur, hcur⟩ := hS.blk b _ hb hz
        exact ⟨cur, hcur.heap, hcur.size, RdL.moveN hc hcur.pre, hcur.full⟩
      | succ i => simp at hi
    · cases i with
      | zero => cases j with
        | zero => rfl
        | succ j => simp at hj
      | succ i => simp at hi
  have hv1 : RdT (ctx (fun _ => ρ b) S w [some blk]) (.sl 0 off n c :: plain) vals := by
    simp only [RdT] at hv ⊢
    obtain ⟨u, r, e, h1, h2⟩ := hv
    refine ⟨u, r, e, ?_, RdT.move hpl h2⟩
    cases c <;> simp only [Rd] at h1 ⊢ <;> exact ⟨by simp, h1.2⟩
  refine (h.2 _ S w vals hS1 hv1).mono fun e w' ⟨v, ρ', S', he, hS', hle, hr⟩ => ?_
  have e0 : ρ' 0 = ρ b := hle.ρ 0 (by simp)
  have live' : ∀ k, Live ρ (H.set b (some blk')) k → (0 < (ρ b).2 ∧ (ρ b).1 = k) ∨ ∃ i bl, i ≠ b ∧ H[i]? = some (some bl) ∧ 0 < (ρ i).2 ∧ (ρ i).1 = k := by
    rintro k ⟨i, bl, hi, hz, e⟩
    by_cases hib : b = i
    · subst hib; exact .inl ⟨hz, e⟩
    · rw [List.getElem?_set_ne hib] at hi
      exact .inr ⟨i, bl, fun e => hib e.symm, hi, hz, e⟩
  have live2 : ∀ k, (0 < (ρ b).2 ∧ (ρ b).1 = k) → Live ρ' [some blk'] k := fun k hk => ⟨0, blk', by simp, by rw [e0]; exact hk.1, by rw [e0]; exact hk.2⟩
  have hle2 : (ctx ρ S w H).le (ctx ρ S' w' (H.set b (some blk'))) := by
    refine ⟨by simp, fun _ _ => rfl, hle.S, hle.keep, fun k hk => ?_, fun k hk => ⟨Nat.lt_of_lt_of_le hk.1 hle.size, fun hl => ?_⟩, fun k hk => hle.heap k ⟨hk.1, fun hl => hk.2 (live1H k hl)⟩, hle.size, hle.os, hle.tape, hle.output⟩
    · rcases hle.new k hk with h | h | h
      · exact .inl h
      · exact .inr (.inl (live1H k h))
      · exact .inr (.inr h)
    · rcases live' k hl with h | ⟨i, bl, _, hi, hz, e⟩
      · exact hk.2 ⟨b, blk, hb, h.1, h.2⟩
      · exact hk.2 ⟨i, bl, hi, hz, e⟩
  refine ⟨v, ρ, S', he, ⟨fun k hk => ⟨(hS'.sub k hk).1, fun hl => ?_⟩, fun i bl hi hz => ?_, fun i bl hi hz => ?_, fun i j bi bj hi hj hz hz' e => ?_, hS'.glob⟩, hle2, by
    cases c2 <;> simp only [Rd] at hr ⊢ <;> rw [e0] at hr <;> exact ⟨by simpa using hbl, hr.2⟩⟩
  · rcases live' k hl with h | ⟨i, bl, hib, hi, hz, e⟩
    · exact (hS'.sub k hk).2 (live2 k h)
    · rcases hle.new k hk with h | h | h
      · exact (hS.sub k h).2 ⟨i, bl, hi, hz, e⟩
      · obtain ⟨hz1, e1⟩ := live1 k h
        exact hib (hS.inj i b _ _ hi hb hz hz1 (e.trans e1.symm))
      · have := hS.lt ⟨i, bl, hi, hz, e⟩; simp only [ctx] at *; omega
  · by_cases hib : b = i
    · subst hib
      rw [List.getElem?_set_self hbl] at hi
      injection hi with hi; injection hi with hi; subst hi
      exact hS'.none 0 blk' (by simp) (by rw [e0]; exact hz)
    · rw [List.getElem?_set_ne hib] at hi; exact hS.none i bl hi hz
  · by_cases hib : b = i
    · subst hib
      rw [List.getElem?_set_self hbl] at hi
      injection hi with hi; injection hi with hi; subst hi
      obtain ⟨cur, hcur⟩ := hS'.blk 0 blk' (by simp) (by rw [e0]; exact hz)
      have hh := hcur.heap
      have hs := hcur.size
      rw [e0] at hh hs
      exact ⟨cur, hh, hs, RdL.moveN hc' hcur.pre, hcur.full⟩
    · rw [List.getElem?_set_ne hib] at hi
      obtain ⟨cur, hcur⟩ := hS.blk i bl hi hz
      refine ⟨cur, hcur.heap.of (hle.heap _ ⟨hcur.lt, fun hl => ?_⟩), hcur.size, hcur.pre.mono hle2 _ _, hcur.full⟩
      obtain ⟨hz1, e1⟩ := live1 _ hl
      exact hib (hS.inj b i _ _ hb hi hz1 hz e1)
  · have back : ∀ i bi, (H.set b (some blk'))[i]? = some (some bi) → ∃ bl, H[i]? = some (some bl) := fun i bi hi => by
      by_cases hib : b = i
      · subst hib; exact ⟨blk, hb⟩
      · rw [List.getElem?_set_ne hib] at hi; exact ⟨bi, hi⟩
    obtain ⟨x, hx⟩ := back i bi hi
    obtain ⟨y, hy⟩ := back j bj hj
    exact hS.inj i j x y hx hy hz hz' e
abbrev EntK := List D → Option (Nat × Cap × Blk × Prop)
def EntKOk (P : Program) (g : FuncId) (e : EntK) : Prop := ∀ ds n c blk p, e ds = some (n, c, blk, p) → p → CallJ P g ds [] (.sl 0 0 n c) [some blk] ∧ NamelessL ds ∧ NamelessL blk.cs
def addMake (f : FuncId) (e : EntK) (r : CallO) : CallO := fun g ds H K => bif Nat.beq g f then (match e ds with
  | some (n, c, blk, p) => some (p ∧ K (.sl H.length 0 n c) (H ++ [some blk]) (.mk H.length))
  | none => none) else r g ds H K
mutual
theorem shD_nameless {k : Nat} : ∀ d : D, Nameless d → shD k d = d
  | .v _, _ => rfl
  | .ro _ _, _ => rfl
  | .rp _ _, _ => rfl
  | .sl _ _ _ _, h => by simp [Nameless] at h
  | .ptr _ _, h => by simp [Nameless] at h
  | .agg xs, h => by simp only [Nameless] at h; simp only [shD]; rw [shL_nameless xs h]
  | .tup xs, h => by simp only [Nameless] at h; simp only [shD]; rw [shL_nameless xs h]
  | .ifc _ d, h => by simp only [Nameless] at h; simp only [shD]; rw [shD_nameless d h]
  | .fn _ _ xs, h => by simp only [Nameless] at h; simp only [shD]; rw [shL_nameless xs h]
theorem shL_nameless {k : Nat} : ∀ cs : List D, NamelessL cs → shL k cs = cs
  | [], _ => rfl
  | d :: ds, h => by simp only [NamelessL] at h; simp only [shL]; rw [shD_nameless d h.1, shL_nameless ds h.2]
end
theorem addMake_ok {P : Program} {f : FuncId} {e : EntK} {r : CallO} (he : EntKOk P f e) (hr : CallOK P r) : CallOK P (addMake f e r) := by
  intro g ds H K p h hp
  unfold addMake at h
  cases hg : Nat.beq g f with
  | false => rw [hg] at h; exact hr g ds H K p h hp
  | true =>
    rw [hg] at h
    have hgf : g = f := Nat.eq_of_beq_eq_true hg
    subst hgf
    simp only [cond_true] at h
    split at h
    · rename_i n c blk q hq
      injection h with h; subst h
      obtain ⟨hc, hn, hl⟩ := he _ _ _ _ _ hq hp.1
      refine .makes _ [some blk] (fun H1 hl1 => ?_) hp.2
      have := hc.frame hn H1
      simp only [shD, shH, List.map_cons, List.map_nil, shO, shB, shL_nameless _ hl, Nat.zero_add, hl1] at this
      exact this
    · cases h
theorem fin_second {ds : List D} {o n : Nat} {c : Cap} {blk : Blk} (hn : NamelessL blk.cs) : Fin ds [] (.sl 1 o n c) [none, some blk] (.sl 0 o n c) [some blk] := by
  intro ρ0 S0 w0 ρ S w u hS0 hle hS hr
  have live : ∀ k, Live (fun b => ρ (b + 1)) [some blk] k → Live ρ [none, some blk] k := by
    rintro k ⟨i, bl, hi, hz, e⟩
    exact ⟨i + 1, bl, by simpa using hi, hz, e⟩
  have up : ∀ (i : Nat) (bl : Blk), [some blk][i]? = some (some bl) → [none, some blk][i + 1]? = some (some bl) := fun i bl h => by simpa using h
  refine ⟨fun b => ρ (b + 1), S, ⟨fun k hk => ⟨(hS.sub k hk).1, fun hl => (hS.sub k hk).2 (live k hl)⟩, fun i bl hi hz => hS.none (i + 1) bl (up i bl hi) hz, fun i bl hi hz => ?_, fun i j bi bj hi hj hz hz' e => ?_, hS.glob⟩, ?_, ?_⟩
  · obtain ⟨cur, hcur⟩ := hS.blk (i + 1) bl (up i bl hi) hz
    refine ⟨cur, hcur.heap, hcur.size, RdL.moveN ?_ hcur.pre, hcur.full⟩
    cases i with
    | zero => simp at hi; subst hi; exact hn
    | succ i => simp at hi
  · have := hS.inj (i + 1) (j + 1) bi bj (up i bi hi) (up j bj hj) hz hz' e
    omega
  · exact ⟨Nat.zero_le _, fun b hb => absurd hb (Nat.not_lt_zero _), hle.S, hle.keep, hle.new, fun k hk => ⟨(hle.fix k hk).1, fun hl => (hle.fix k hk).2 (live k hl)⟩, hle.heap, hle.size, hle.os, hle.tape, hle.output⟩
  · cases c <;> simp only [Rd] at hr ⊢ <;> exact ⟨by simp, hr.2⟩
theorem CallJ.nilSl {P : Program} {f : FuncId} {ds : List D} {H H' : Heap} {b o : Nat} (hb : b < H'.length) (h : CallJ P f ds H (.v (.slice none 0 0)) H') : CallJ P f ds H (.sl b o 0 (.exact 0 1)) H' := by
  refine ⟨h.1, fun ρ S w vals hS hv => (h.2 ρ S w vals hS hv).mono fun e w' ⟨v, ρ', S', he, hS', hle, hr⟩ => ⟨v, ρ', S', he, hS', hle, ?_⟩⟩
  simp only [Rd] at hr ⊢
  exact ⟨hb, Nat.le_refl _, Nat.zero_le _, none, hr, fun h => absurd h (by decide)⟩
abbrev EntS := Nat → Nat → Cap → List D → Blk → Option (Nat × Prop)
def EntSOk (P : Program) (g : FuncId) (e : EntS) : Prop := ∀ off n c plain blk m p, e off n c plain blk = some (m, p) → p →
  NamelessL plain ∧ NamelessL blk.cs ∧ (m = 0 → CallJ P g (.sl 0 off n c :: plain) [some blk] (.v (.slice none 0 0)) [some blk]) ∧ (0 < m → CallJ P g (.sl 0 off n c :: plain) [some blk] (.sl 0 off m (.exact m 1)) [some blk])
def addCut (f : FuncId) (e : EntS) (r : CallO) : CallO := fun g ds H K => bif Nat.beq g f then (match ds with
  | .sl b off n c :: plain => match blkAt H b with
    | some blk => match e off n c plain blk with
      | some (m, p) => some (p ∧ K (.sl b off m (.exact m 1)) (H.set b (some blk)) .al)
      | none => none
    | none => none
  | _ => none) else r g ds H K
theorem addCut_ok {P : Program} {f : FuncId} {e : EntS} {r : CallO} (he : EntSOk P f e) (hr : CallOK P r) : CallOK P (addCut f e r) := by
  intro g ds H K p h hp
  unfold addCut at h
  cases hg : Nat.beq g f with
  | false => rw [hg] at h; exact hr g ds H K p h hp
  | true =>
    rw [hg] at h
    have hgf : g = f := Nat.eq_of_beq_eq_true hg
    subst hgf
    simp only [cond_true] at h
    split at h
    · rename_i b off n c plain
      split at h
      · rename_i blk hblk
        split at h
        · rename_i m q hq
          injection h with h; subst h
          obtain ⟨h1, h2, h3, h4⟩ := he _ _ _ _ _ _ _ hq hp.1
          have hs : CallJ P g (.sl 0 off n c :: plain) [some blk] (.sl 0 off m (.exact m 1)) [some blk] := by
            rcases Nat.eq_zero_or_pos m with h0 | h0
            · have := (h3 h0).nilSl (b := 0) (o := off) (by simp)
              rwa [h0]
            · exact h4 h0
          exact .own _ _ (hs.frameAtS h1 h2 h2 (blkAt_some hblk)) hp.2
        · cases h
      · cases h
    · cases h
theorem callJ_same {P : Program} {T : Tbl} (hT : TblOk P T) {N : Nat} {call : CallO} {lp : Nat → Option LoopO} (hm : P.follows .mixedOrders = true) (hc : CallOK P call) {f : FuncId} {fn : Func} {c : Code} {ds : List D} {H H' : Heap} {d : D} (hf : P.funcs[f]? = some fn) (hb : fn.body = some c)
    (hname : (fn.name == "runtime.NumGoroutine") = false) (hok : codeOk fn.ntmps c = true) (hlen : decide (ds.length ≤ fn.ntmps) = true) (hl : LpAll P fn.ntmps lp (loopsOf c))
    (h : vcx P call lp T N c (retQ T fn.results.toList fun d1 H1 => d1 = d ∧ H1 = H') (envOf 0 ds) H) : CallJ P f ds H d H' := by
  refine callJ_of_dw hT hf hb hname (by simpa using hlen) ((vcx_sound hT hm hc c _ _ _ hok hl h).mono fun e env H h => ?_)
  cases e <;> simp only [retQ] at h ⊢
  all_goals first
    | exact h.elim
    | (split at h
       · obtain ⟨g1, rfl, rfl⟩ := h
         exact ⟨g1, fin_same⟩
       · exact h.elim)
theorem callJ_second {P : Program} {T : Tbl} (hT : TblOk P T) {N : Nat} {call : CallO} {lp : Nat → Option LoopO} (hm : P.follows .mixedOrders = true) (hc : CallOK P call) {f : FuncId} {fn : Func} {c : Code} {ds : List D} {o n : Nat} {cp : Cap} {blk : Blk} (hf : P.funcs[f]? = some fn) (hb : fn.body = some c)
    (hname : (fn.name == "runtime.NumGoroutine") = false) (hok : codeOk fn.ntmps c = true) (hlen : decide (ds.length ≤ fn.ntmps) = true) (hl : LpAll P fn.ntmps lp (loopsOf c)) (hn : NamelessL blk.cs)
    (h : vcx P call lp T N c (retQ T fn.results.toList fun d1 H1 => d1 = .sl 1 o n cp ∧ H1 = [none, some blk]) (envOf 0 ds) []) : CallJ P f ds [] (.sl 0 o n cp) [some blk] := by
  refine callJ_of_dw hT hf hb hname (by simpa using hlen) ((vcx_sound hT hm hc c _ _ _ hok hl h).mono fun e env H h => ?_)
  cases e <;> simp only [retQ] at h ⊢
  all_goals first
    | exact h.elim
    | (split at h
       · obtain ⟨g1, g2, rfl⟩ := h
         rw [g2]
         exact ⟨g1, fin_second hn⟩
       · exact h.elim)
theorem CallJ.frameGrow {P : Program} {f : FuncId} {off n n' : Nat} {c : Cap} {plain : List D} {blk blk' : Blk} (h : CallJ P f (.sl 0 off n c :: plain) [some blk] (.sl 1 0 n' (.toEnd 1)) [none, some blk']) (hpl : NamelessL plain) (hc : NamelessL blk.cs) (hc' : NamelessL blk'.cs)
    {H : Heap} {b : Nat} (hb : H[b]? = some (some blk)) : CallJ P f (.sl b off n c :: plain) H (.sl H.length 0 n' (.toEnd 1)) (H.set b none ++ [some blk']) := by
  have hbl : b < H.length := (List.getElem?_eq_some_iff.1 hb).1
  refine ⟨h.1, fun ρ S w vals hS hv => ?_⟩
  have live1 : ∀ k, Live (fun _ => ρ b) [some blk] k → 0 < (ρ b).2 ∧ (ρ b).1 = k := by
    rintro k ⟨i, bl, hi, hz, e⟩
    exact ⟨hz, e⟩
  have live1H : ∀ k, Live (fun _ => ρ b) [some blk] k → Live ρ H k := fun k hk => ⟨b, blk, hb, (live1 k hk).1, (live1 k hk).2⟩
  have hS1 : St (fun _ => ρ b) S w [some blk] := by
    refine ⟨fun k hk => ⟨(hS.sub k hk).1, fun hl => (hS.sub k hk).2 (live1H k hl)⟩, fun i bl hi hz => ?_, fun i bl hi hz => ?_, fun i j bi bj hi hj _ _ _ => ?_, hS.glob⟩
    · cases i with
      | zero => simp at hi; subst hi; exact hS.none b _ hb hz
      | succ i => simp at hi
    · cases i with
      | zero =>
        simp at hi; subst hi
        obtain ⟨cur, hcur⟩ := hS.blk b _ hb hz
        exact ⟨cur, hcur.heap, hcur.size, RdL.moveN hc hcur.pre, hcur.full⟩
      | succ i => simp at hi
    · cases i with
      | zero => cases j with
        | zero => rfl
        | succ j => simp at hj
      | succ i => simp at hi
  have hv1 : RdT (ctx (fun _ => ρ b) S w [some blk]) (.sl 0 off n c :: plain) vals := by
    simp only [RdT] at hv ⊢
    obtain ⟨u, r, e, h1, h2⟩ := hv
    refine ⟨u, r, e, ?_, RdT.move hpl h2⟩
    cases c <;> simp only [Rd] at h1 ⊢ <;> exact ⟨by simp, h1.2⟩
  refine (h.2 _ S w vals hS1 hv1).mono fun e w' ⟨v, ρ', S', he, hS', hle, hr⟩ => ?_
  let ρ2 : Nat → Nat × Nat := fun i => if i = H.length then ρ' 1 else ρ i
  have e2 : ρ2 H.length = ρ' 1 := if_pos rfl
  have e1 : ∀ i, i < H.length → ρ2 i = ρ i := fun i hi => if_neg (by omega)
  have get2 : ∀ i bl, (H.set b none ++ [some blk'])[i]? = some (some bl) → (i = H.length ∧ bl = blk') ∨ (i ≠ b ∧ i < H.length ∧ H[i]? = some (some bl)) := by
    intro i bl hi
    rcases Nat.lt_or_ge i H.length with hlt | hge
    · rw [List.getElem?_append_left (by simpa using hlt)] at hi
      by_cases hib : b = i
      · subst hib
        rw [List.getElem?_set_self hbl] at hi
        simp at hi
      · rw [List.getElem?_set_ne hib] at hi
        exact .inr ⟨fun e => hib e.symm, hlt, hi⟩
    · rw [List.getElem?_append_right (by simpa using hge)] at hi
      simp only [List.length_set] at hi
      have hi0 : i - H.length = 0 := by
        rcases Nat.eq_zero_or_pos (i - H.length) with h0 | h0
        · exact h0
        · rw [List.getElem?_eq_none (by simp; omega)] at hi; simp at hi
      rw [hi0] at hi
      simp at hi
      exact .inl ⟨by omega, hi.symm⟩
  have live' : ∀ k, Live ρ2 (H.set b none ++ [some blk']) k → (0 < (ρ' 1).2 ∧ (ρ' 1).1 = k) ∨ ∃ i bl, i ≠ b ∧ H[i]? = some (some bl) ∧ 0 < (ρ i).2 ∧ (ρ i).1 = k := by
    rintro k ⟨i, bl, hi, hz, e⟩
    rcases get2 i bl hi with ⟨rfl, rfl⟩ | ⟨h1, h2, h3⟩
    · rw [e2] at hz e; exact .inl ⟨hz, e⟩
    · rw [e1 i h2] at hz e; exact .inr ⟨i, bl, h1, h3, hz, e⟩
  have live2 : ∀ k, (0 < (ρ' 1).2 ∧ (ρ' 1).1 = k) → Live ρ' [none, some blk'] k := fun k hk => ⟨1, blk', by simp, hk.1, hk.2⟩
  have new1 : 0 < (ρ' 1).2 → (0 < (ρ b).2 ∧ (ρ b).1 = (ρ' 1).1) ∨ w.heap.size ≤ (ρ' 1).1 := fun hz => by
    rcases Nat.lt_or_ge (ρ' 1).1 w.heap.size with hlt | hge
    · by_cases hl : Live (fun _ => ρ b) [some blk] (ρ' 1).1
      · exact .inl (live1 _ hl)
      · exact absurd (live2 _ ⟨hz, rfl⟩) (hle.fix _ ⟨hlt, hl⟩).2
    · exact .inr hge
  have hle2 : (ctx ρ S w H).le (ctx ρ2 S' w' (H.set b none ++ [some blk'])) := by
    refine ⟨by simp, fun i hi => e1 i hi, hle.S, hle.keep, fun k hk => ?_, fun k hk => ⟨Nat.lt_of_lt_of_le hk.1 hle.size, fun hl => ?_⟩, fun k hk => hle.heap k ⟨hk.1, fun hl => hk.2 (live1H k hl)⟩, hle.size, hle.os, hle.tape, hle.output⟩
    · rcases hle.new k hk with h | h | h
      · exact .inl h
      · exact .inr (.inl (live1H k h))
      · exact .inr (.inr h)
    · rcases live' k hl with ⟨hz, e⟩ | ⟨i, bl, _, hi, hz, e⟩
      · rcases new1 hz with h1 | h1
        · exact hk.2 ⟨b, blk, hb, h1.1, h1.2.trans e⟩
        · have := hk.1; simp only [ctx] at *; omega
      · exact hk.2 ⟨i, bl, hi, hz, e⟩
  refine ⟨v, ρ2, S', he, ⟨fun k hk => ⟨(hS'.sub k hk).1, fun hl => ?_⟩, fun i bl hi hz => ?_, fun i bl hi hz => ?_, fun i j bi bj hi hj hz hz' e => ?_, hS'.glob⟩, hle2, ?_⟩
  · rcases live' k hl with h | ⟨i, bl, hib, hi, hz, e⟩
    · exact (hS'.sub k hk).2 (live2 k h)
    · rcases hle.new k hk with h | h | h
      · exact (hS.sub k h).2 ⟨i, bl, hi, hz, e⟩
      · obtain ⟨hz1, e1⟩ := live1 k h
        exact hib (hS.inj i b _ _ hi hb hz hz1 (e.trans e1.symm))
      · have := hS.lt ⟨i, bl, hi, hz, e⟩; simp only [ctx] at *; omega
  · rcases get2 i bl hi with ⟨rfl, rfl⟩ | ⟨h1, h2, h3⟩
    · rw [e2] at hz; exact hS'.none 1 bl (by simp) hz
    · rw [e1 i h2] at hz; exact hS.none i bl h3 hz
  · rcases get2 i bl hi with ⟨rfl, rfl⟩ | ⟨h1, h2, h3⟩
    · rw [e2] at hz ⊢
      obtain ⟨cur, hcur⟩ := hS'.blk 1 bl (by simp) hz
      exact ⟨cur, hcur.heap, hcur.size, RdL.moveN hc' hcur.pre, hcur.full⟩
    · rw [e1 i h2] at hz ⊢
      obtain ⟨cur, hcur⟩ := hS.blk i bl h3 hz
      refine ⟨cur, hcur.heap.of (hle.heap _ ⟨hcur.lt, fun hl => ?_⟩), hcur.size, hcur.pre.mono hle2 _ _, hcur.full⟩
      obtain ⟨hz1, e1⟩ := live1 _ hl
      exact h1 (hS.inj i b _ _ h3 hb hz hz1 e1.symm)
  · have cross : ∀ i bi, i ≠ b → H[i]? = some (some bi) → 0 < (ρ i).2 → 0 < (ρ' 1).2 → (ρ i).1 ≠ (ρ' 1).1 := fun i bi hib hi hz hz' e => by
      rcases new1 hz' with h1 | h1
      · exact hib (hS.inj i b _ _ hi hb hz h1.1 (e.trans h1.2.symm))
      · have := hS.lt ⟨i, bi, hi, hz, rfl⟩; omega
    rcases get2 i bi hi with ⟨rfl, rfl⟩ | ⟨h1, h2, h3⟩
    · rcases get2 j bj hj with ⟨rfl, rfl⟩ | ⟨g1, g2, g3⟩
      · rfl
      · rw [e2] at hz e; rw [e1 j g2] at hz' e
        exact absurd e.symm (cross j bj g1 g3 hz' hz)
    · rcases get2 j bj hj with ⟨rfl, rfl⟩ | ⟨g1, g2, g3⟩
      · rw [e2] at hz' e; rw [e1 i h2] at hz e
        exact absurd e (cross i bi h1 h3 hz hz')
      · rw [e1 i h2] at hz e; rw [e1 j g2] at hz' e
        exact hS.inj i j bi bj h3 g3 hz hz' e
  · simp only [Rd] at hr ⊢
    have hr2 := hr.2
    rw [← e2] at hr2
    exact ⟨by simp, hr2⟩
abbrev EntR := Nat → Nat → Cap → List D → Blk → Option (Bool × Nat × Blk × Prop)
def EntROk (P : Program) (g : FuncId) (e : EntR) : Prop := ∀ off n c plain blk gr m blk' p, e off n c plain blk = some (gr, m, blk', p) → p →
  (NamelessL plain ∧ NamelessL blk.cs ∧ NamelessL blk'.cs) ∧ (gr = false → CallJ P g (.sl 0 off n c :: plain) [some blk] (.sl 0 0 m (.toEnd 1)) [some blk']) ∧ (gr = true → CallJ P g (.sl 0 off n c :: plain) [some blk] (.sl 1 0 m (.toEnd 1)) [none, some blk'])
def addGrow (f : FuncId) (e : EntR) (r : CallO) : CallO := fun g ds H K => bif Nat.beq g f then (match ds with
  | .sl b off n c :: plain => match blkAt H b with
    | some blk => match e off n c plain blk with
      | some (gr, m, blk', p) => some (p ∧ pcond gr (K (.sl H.length 0 m (.toEnd 1)) (H.set b none ++ [some blk']) .al) (K (.sl b 0 m (.toEnd 1)) (H.set b (some blk')) .al))
      | none => none
    | none => none
  | _ => none) else r g ds H K
theorem addGrow_ok {P : Program} {f : FuncId} {e : EntR} {r : CallO} (he : EntROk P f e) (hr : CallOK P r) : CallOK P (addGrow f e r) := by
  intro g ds H K p h hp
  unfold addGrow at h
  cases hg : Nat.beq g f with
  | false => rw [hg] at h; exact hr g ds H K p h hp
  | true =>
    rw [hg] at h
    have hgf : g = f := Nat.eq_of_beq_eq_true hg
    subst hgf
    simp only [cond_true] at h
    split at h
    · rename_i b off n c plain
      split at h
      · rename_i blk hblk
        split at h
        · rename_i gr m blk' q hq
          injection h with h; subst h
          obtain ⟨⟨h1, h2, h3⟩, h4, h5⟩ := he _ _ _ _ _ _ _ _ _ hq hp.1
          have hk := hp.2
          cases gr with
          | true =>
            rw [pcond_true] at hk
            exact .own _ _ ((h5 rfl).frameGrow h1 h2 h3 (blkAt_some hblk)) hk
          | false =>
            rw [pcond_false] at hk
            exact .own _ _ ((h4 rfl).frameAtS h1 h2 h3 (blkAt_some hblk)) hk
        · cases h
      · cases h
    · cases h
theorem fin_third {ds : List D} {y x : Option Blk} {o n : Nat} {c : Cap} {blk : Blk} (hn : NamelessL blk.cs) : Fin ds [y] (.sl 2 o n c) [none, x, some blk] (.sl 1 o n c) [none, some blk] := by
  intro ρ0 S0 w0 ρ S w u hS0 hle hS hr
  let ρ2 : Nat → Nat × Nat := fun b => if b = 1 then ρ 2 else ρ b
  have e1 : ρ2 1 = ρ 2 := rfl
  have e0 : ρ2 0 = ρ 0 := rfl
  have get : ∀ (i : Nat) (bl : Blk), ([none, some blk] : Heap)[i]? = some (some bl) → i = 1 ∧ bl = blk := by
    intro i bl h
    match i with
    | 0 => simp at h
    | 1 => simp at h; exact ⟨rfl, h.symm⟩
    | i + 2 => simp at h
  have at2 : ([none, x, some blk] : Heap)[2]? = some (some blk) := rfl
  have live : ∀ k, Live ρ2 [none, some blk] k → Live ρ [none, x, some blk] k := by
    rintro k ⟨i, bl, hi, hz, e⟩
    obtain ⟨rfl, rfl⟩ := get i bl hi
    rw [e1] at hz e
    exact ⟨2, bl, at2, hz, e⟩
  refine ⟨ρ2, S, ⟨fun k hk => ⟨(hS.sub k hk).1, fun hl => (hS.sub k hk).2 (live k hl)⟩, fun i bl hi hz => ?_, fun i bl hi hz => ?_, fun i j bi bj hi hj hz hz' e => ?_, hS.glob⟩, ?_, ?_⟩
  · obtain ⟨rfl, rfl⟩ := get i bl hi
    rw [e1] at hz
    exact hS.none 2 bl at2 hz
  · obtain ⟨rfl, rfl⟩ := get i bl hi
    rw [e1] at hz ⊢
    obtain ⟨cur, hcur⟩ := hS.blk 2 bl at2 hz
    exact ⟨cur, hcur.heap, hcur.size, RdL.moveN hn hcur.pre, hcur.full⟩
  · rw [(get i bi hi).1, (get j bj hj).1]
  · refine ⟨by simp, fun b hb => ?_, hle.S, hle.keep, hle.new, fun k hk => ⟨(hle.fix k hk).1, fun hl => (hle.fix k hk).2 (live k hl)⟩, hle.heap, hle.size, hle.os, hle.tape, hle.output⟩
    have : b = 0 := by simp at hb; exact hb
    subst this
    rw [← hle.ρ 0 (by simp)]
    exact e0
  · cases c <;> simp only [Rd] at hr ⊢ <;> exact ⟨by simp, hr.2⟩
theorem callJ_third {P : Program} {T : Tbl} (hT : TblOk P T) {N : Nat} {call : CallO} {lp : Nat → Option LoopO} (hm : P.follows .mixedOrders = true) (hc : CallOK P call) {f : FuncId} {fn : Func} {c : Code} {ds : List D} {o n : Nat} {cp : Cap} {y : Option Blk} {blk : Blk} (hf : P.funcs[f]? = some fn) (hb : fn.body = some c)
    (hname : (fn.name == "runtime.NumGoroutine") = false) (hok : codeOk fn.ntmps c = true) (hlen : decide (ds.length ≤ fn.ntmps) = true) (hl : LpAll P fn.ntmps lp (loopsOf c)) (hn : NamelessL blk.cs)
    (h : vcx P call lp T N c (retQ T fn.results.toList fun d1 H1 => d1 = .sl 2 o n cp ∧ ∃ x, H1 = [none, x, some blk]) (envOf 0 ds) [y]) : CallJ P f ds [y] (.sl 1 o n cp) [none, some blk] := by
  refine callJ_of_dw hT hf hb hname (by simpa using hlen) ((vcx_sound hT hm hc c _ _ _ hok hl h).mono fun e env H h => ?_)
  cases e <;> simp only [retQ] at h ⊢
  all_goals first
    | exact h.elim
    | (split at h
       · obtain ⟨g1, g2, x, rfl⟩ := h
         rw [g2]
         exact ⟨g1, fin_third hn⟩
       · exact h.elim)
end Go.VD
end
