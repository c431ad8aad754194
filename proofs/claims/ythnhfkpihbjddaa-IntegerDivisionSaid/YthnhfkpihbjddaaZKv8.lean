import Derived.Test.YthnhfkpihbjddaaZKv6
import Derived.Test.YthnhfkpihbjddaaZKv7
import Derived.Laws.Bits64b
section
namespace Go.VD
set_option linter.unusedVariables false
set_option linter.unusedSimpArgs false
theorem RdL.moveN {ρ ρ' : Nat → Nat × Nat} {S : Nat → Prop} {w : World} {H H' : Heap} {ds : List D} {us : List Value} (hn : NamelessL ds) (h : RdL (ctx ρ S w H) ds us) : RdL (ctx ρ' S w H') ds us :=
  RdL.nameless (E := ctx ρ S w H) (E' := ctx ρ' S w H') (fun _ h => h) (fun _ _ => rfl) ds us hn h
theorem CallJ.frameAt {P : Program} {f : FuncId} {off n : Nat} {c : Cap} {plain : List D} {blk blk' : Blk} {d : D} (h : CallJ P f (.sl 0 off n c :: plain) [some blk] d [some blk']) (hpl : NamelessL plain) (hd : Nameless d) (hc : NamelessL blk.cs) (hc' : NamelessL blk'.cs)
    {H : Heap} {b : Nat} (hb : H[b]? = some (some blk)) : CallJ P f (.sl b off n c :: plain) H d (H.set b (some blk')) := by
  have hbl : b < H.length := (List.getElem?_eq_some_iff.1 hb).1
  refine ⟨h.1, fun ρ S w vals hS hv => ?_⟩
  have live1 : ∀ k, Live (fun _ => ρ b) [some blk] k → 0 < (ρ b).2 ∧ (ρ b).1 = k := by
    rintro k ⟨i, bl, hi, hz, e⟩
    exact ⟨hz, e⟩
  have live1H : ∀ k, Live (fun _ => ρ b) [some blk] k → Live ρ H k := fun k hk => ⟨b, blk, hb, (live1 k hk).1, (live1 k hk).2⟩
  have hS1 : St (fun _ => ρ b) S w [some blk] := by
    refine ⟨fun k hk => ⟨(hS.sub k hk).1, fun hl => (hS.sub k hk).2 (live1H k hl)⟩, fun i bl hi hz => ?_, fun i bl hi hz => ?_, fun i j bi bj hi hj _ _ _ => ?_, hS.glob⟩
    · cases i with
      | zero => simp at hi; subst hi; exact hS.none b _ hb hz
      | succ i => simp at hi
    · cases i with
      | zero =>
        simp at hi; subst hi
        obtain ⟨cur, hcur⟩ := hS.blk b _ hb hz
        exact ⟨cur, hcur.heap, hcur.size, RdL.moveN hc hcur.pre, hcur.full⟩
      | succ i => simp at hi
    · cases i with
      | zero => cases j with
        | zero => rfl
        | succ j => simp at hj
      | succ i => simp at hi
  have hv1 : RdT (ctx (fun _ => ρ b) S w [some blk]) (.sl 0 off n c :: plain) vals := by
    simp only [RdT] at hv ⊢
    obtain ⟨u, r, e, h1, h2⟩ := hv
    refine ⟨u, r, e, ?_, RdT.move hpl h2⟩
    cases c <;> simp only [Rd] at h1 ⊢ <;> exact ⟨by simp, h1.2⟩
  refine (h.2 _ S w vals hS1 hv1).mono fun e w' ⟨v, ρ', S', he, hS', hle, hr⟩ => ?_
  have e0 : ρ' 0 = ρ b := hle.ρ 0 (by simp)
  have live' : ∀ k, Live ρ (H.set b (some blk')) k → (0 < (ρ b).2 ∧ (ρ b).1 = k) ∨ ∃ i bl, i ≠ b ∧ H[i]? = some (some bl) ∧ 0 < (ρ i).2 ∧ (ρ i).1 = k := by
    rintro k ⟨i, bl, hi, hz, e⟩
    by_cases hib : b = i
    · subst hib; exact .inl ⟨hz, e⟩
    · rw [List.getElem?_set_ne hib] at hi
      exact .inr ⟨i, bl, fun e => hib e.symm, hi, hz, e⟩
  have live2 : ∀ k, (0 < (ρ b).2 ∧ (ρ b).1 = k) → Live ρ' [some blk'] k := fun k hk => ⟨0, blk', by simp, by rw [e0]; exact hk.1, by rw [e0]; exact hk.2⟩
  have hle2 : (ctx ρ S w H).le (ctx ρ S' w' (H.set b (some blk'))) := by
    refine ⟨by simp, fun _ _ => rfl, hle.S, hle.keep, fun k hk => ?_, fun k hk => ⟨Nat.lt_of_lt_of_le hk.1 hle.size, fun hl => ?_⟩, fun k hk => hle.heap k ⟨hk.1, fun hl => hk.2 (live1H k hl)⟩, hle.size, hle.os, hle.tape, hle.output⟩
    · rcases hle.new k hk with h | h | h
      · exact .inl h
      · exact .inr (.inl (live1H k h))
      · exact .inr (.inr h)
    · rcases live' k hl with h | ⟨i, bl, _, hi, hz, e⟩
      · exact hk.2 ⟨b, blk, hb, h.1, h.2⟩
      · exact hk.2 ⟨i, bl, hi, hz, e⟩
  refine ⟨v, ρ, S', he, ⟨fun k hk => ⟨(hS'.sub k hk).1, fun hl => ?_⟩, fun i bl hi hz => ?_, fun i bl hi hz => ?_, fun i j bi bj hi hj hz hz' e => ?_, hS'.glob⟩, hle2, Rd.move hd hr⟩
  · rcases live' k hl with h | ⟨i, bl, hib, hi, hz, e⟩
    · exact (hS'.sub k hk).2 (live2 k h)
    · rcases hle.new k hk with h | h | h
      · exact (hS.sub k h).2 ⟨i, bl, hi, hz, e⟩
      · obtain ⟨hz1, e1⟩ := live1 k h
        exact hib (hS.inj i b _ _ hi hb hz hz1 (e.trans e1.symm))
      · have := hS.lt ⟨i, bl, hi, hz, e⟩; simp only [ctx] at *; omega
  · by_cases hib : b = i
    · subst hib
      rw [List.getElem?_set_self hbl] at hi
      injection hi with hi; injection hi with hi; subst hi
      exact hS'.none 0 blk' (by simp) (by rw [e0]; exact hz)
    · rw [List.getElem?_set_ne hib] at hi; exact hS.none i bl hi hz
  · by_cases hib : b = i
    · subst hib
      rw [List.getElem?_set_self hbl] at hi
      injection hi with hi; injection hi with hi; subst hi
      obtain ⟨cur, hcur⟩ := hS'.blk 0 blk' (by simp) (by rw [e0]; exact hz)
      have hh := hcur.heap
      have hs := hcur.size
      rw [e0] at hh hs
      exact ⟨cur, hh, hs, RdL.moveN hc' hcur.pre, hcur.full⟩
    · rw [List.getElem?_set_ne hib] at hi
      obtain ⟨cur, hcur⟩ := hS.blk i bl hi hz
      refine ⟨cur, (hle.heap _ ⟨hcur.lt, fun hl => ?_⟩).trans hcur.heap, hcur.size, hcur.pre.mono hle2 _ _, hcur.full⟩
      obtain ⟨hz1, e1⟩ := live1 _ hl
      exact hib (hS.inj b i _ _ hb hi hz1 hz e1)
  · have back : ∀ i bi, (H.set b (some blk'))[i]? = some (some bi) → ∃ bl, H[i]? = some (some bl) := fun i bi hi => by
      by_cases hib : b = i
      · subst hib; exact ⟨blk, hb⟩
      · rw [List.getElem?_set_ne hib] at hi; exact ⟨bi, hi⟩
    obtain ⟨x, hx⟩ := back i bi hi
    obtain ⟨y, hy⟩ := back j bj hj
    exact hS.inj i j x y hx hy hz hz' e
abbrev EntM := Nat → Nat → Cap → List D → Blk → Option (D × Blk × Prop)
structure MutJ (P : Program) (g : FuncId) (off n : Nat) (c : Cap) (plain : List D) (blk : Blk) (d : D) (blk' : Blk) : Prop where
  call : CallJ P g (.sl 0 off n c :: plain) [some blk] d [some blk']
  plain : NamelessL plain
  res : Nameless d
  cs : NamelessL blk.cs
  cs' : NamelessL blk'.cs
def EntMOk (P : Program) (g : FuncId) (e : EntM) : Prop := ∀ off n c plain blk d blk' p, e off n c plain blk = some (d, blk', p) → p → MutJ P g off n c plain blk d blk'
def addMut (f : FuncId) (e : EntM) (r : CallO) : CallO := fun g ds H K => bif Nat.beq g f then (match ds with
  | .sl b off n c :: plain => match blkAt H b with
    | some blk => match e off n c plain blk with
      | some (d, blk', p) => some (p ∧ K d (H.set b (some blk')) .al)
      | none => none
    | none => none
  | _ => none) else r g ds H K
theorem addMut_ok {P : Program} {f : FuncId} {e : EntM} {r : CallO} (he : EntMOk P f e) (hr : CallOK P r) : CallOK P (addMut f e r) := by
  intro g ds H K p h hp
  unfold addMut at h
  cases hg : Nat.beq g f with
  | false => rw [hg] at h; exact hr g ds H K p h hp
  | true =>
    rw [hg] at h
    have hgf : g = f := Nat.eq_of_beq_eq_true hg
    subst hgf
    simp only [cond_true] at h
    split at h
    · rename_i b off n c plain
      split at h
      · rename_i blk hblk
        split at h
        · rename_i d blk' q hq
          injection h with h; subst h
          have hm := he _ _ _ _ _ _ _ _ hq hp.1
          exact .own d _ (hm.call.frameAt hm.plain hm.res hm.cs hm.cs' (blkAt_some hblk)) hp.2
        · cases h
      · cases h
    · cases h
def loopRuleD {α β : Type} (J : α → Prop) (I : α → Env) (HI : α → Heap) (x0 : α) (R : β → Prop) (E : β → Exit × Env × Heap) : LoopO :=
  fun env H Q => J x0 ∧ Has env (I x0) ∧ H = HI x0 ∧ ∀ r, R r → Q (E r).1 (E r).2.1 (E r).2.2
def roundQD {α β : Type} (J : α → Prop) (I : α → Env) (HI : α → Heap) (μ : α → Nat) (R : β → Prop) (E : β → Exit × Env × Heap) (x : α) : Exit → Env → Heap → Prop
  | .normal, env', H' => ∃ y : α, μ y < μ x ∧ J y ∧ Has env' (I y) ∧ H' = HI y
  | e, env', H' => ∃ r : β, R r ∧ e = (E r).1 ∧ Has env' (E r).2.1 ∧ H' = (E r).2.2
theorem lruleD_of {P : Program} {T : Tbl} (hT : TblOk P T) {nt N : Nat} {call : CallO} {lp : Nat → Option LoopO} (hm : P.follows .mixedOrders = true) (hc : CallOK P call) {α β : Type} {J : α → Prop} {I : α → Env} {HI : α → Heap} (μ : α → Nat) {x0 : α} {R : β → Prop} {E : β → Exit × Env × Heap} {c : Code}
    (hok : codeOk nt c = true) (hl : LpAll P nt lp (loopsOf c)) (round : ∀ x, J x → vcx P call lp T N c (roundQD J I HI μ R E x) (I x) (HI x)) : LRule P nt c (loopRuleD J I HI x0 R E) := by
  rintro env H Q ⟨h0, hh, hH, hq⟩
  refine DW.loop J I HI μ x0 h0 hh hH fun x hx => ?_
  intro ρ S w a hi
  refine wp_mono (vcx_sound hT hm hc c _ _ _ hok hl (round x hx) ρ S w a hi) fun e a' w' ⟨env', H', ρ', S', h1, h2, h3⟩ => ?_
  cases e with
  | normal => exact ⟨env', H', ρ', S', h1, h2, h3⟩
  | _ =>
    obtain ⟨r, g1, g2, g3, g4⟩ := h1
    refine ⟨(E r).2.1, (E r).2.2, ρ', S', ?_, by rw [← g4]; exact h2.sub g3, by rw [← g4]; exact h3⟩
    have := hq r g1
    rw [← g2] at this
    exact this
theorem mutJ_of_vcx {P : Program} {T : Tbl} (hT : TblOk P T) {N : Nat} {call : CallO} {lp : Nat → Option LoopO} (hm : P.follows .mixedOrders = true) (hc : CallOK P call) {f : FuncId} {fn : Func} {c : Code} {off n : Nat} {cp : Cap} {plain : List D} {blk blk' : Blk} {d : D} (hf : P.funcs[f]? = some fn) (hb : fn.body = some c)
    (hname : (fn.name == "runtime.NumGoroutine") = false) (hok : codeOk fn.ntmps c = true) (hlen : decide ((.sl 0 off n cp :: plain).length ≤ fn.ntmps) = true) (hl : LpAll P fn.ntmps lp (loopsOf c)) (h1 : NamelessL plain) (h2 : Nameless d) (h3 : NamelessL blk.cs) (h4 : NamelessL blk'.cs)
    (h : vcx P call lp T N c (retQ T fn.results.toList fun d1 H1 => d1 = d ∧ H1 = [some blk']) (envOf 0 (.sl 0 off n cp :: plain)) [some blk]) : MutJ P f off n cp plain blk d blk' := by
  refine ⟨callJ_of_dw hT hf hb hname (by simpa using hlen) ((vcx_sound hT hm hc c _ _ _ hok hl h).mono fun e env H h => ?_), h1, h2, h3, h4⟩
  cases e <;> simp only [retQ] at h ⊢
  all_goals first
    | exact h.elim
    | (split at h
       · obtain ⟨g1, rfl, rfl⟩ := h
         exact ⟨g1, fin_same⟩
       · exact h.elim)
end Go.VD
end
section
namespace Go.Proofs.Ythnhfkpihbjddaa
open Go.VD
set_option linter.unusedVariables false
set_option linter.unusedSimpArgs false
set_option maxRecDepth 100000
theorem ofL_len64 {n : Int} (h : -9223372036854775808 ≤ n ∧ n < 9223372036854775808) : (ofL n).length ≤ 2 := ofL_len (k := 2) (by omega)
theorem ofL_mul_len (v w : Int) : (ofL (v * w)).length ≤ (ofL v).length + (ofL w).length := by
  unfold ofL
  rw [Int.natAbs_mul]
  have := dg_mul_len (dg_dig v.natAbs) (dg_dig w.natAbs)
  rwa [nv_dg, nv_dg] at this
theorem Mul_pure (xn : Bool) (xs : List Nat) (yn : Bool) (ys : List Nat) (hpre : (Good xn xs ∧ xs.length ≤ 100) ∧ Good yn ys ∧ ys.length ≤ 100) : PureJ Try.prog 32 [.agg [.v (.bool xn), .ro xs.length (u32s xs)], .agg [.v (.bool yn), .ro ys.length (u32s ys)]] (.tup [d_int (decide (iv xn xs * iv yn ys < 0)) (ofL (iv xn xs * iv yn ys)), .v (.int .i64 0)]) := by
  refine pureJ_of_vcx (call := (addPure 21 ent_Valid (addPure 69 ent_times (addPure 60 ent_made (addPure 59 ent_result noCalls))))) (lp := fun _ => none) (N := 10) T_ok mixed (addPure_ok ent_Valid_ok (addPure_ok ent_times_ok (addPure_ok ent_made_ok (addPure_ok ent_result_ok noCalls_ok)))) Try.func32 rfl (by decide) (by kernel_rfl) (by kernel_rfl) (LpAll.none _) (by first | trivial | (simp only [NamelessL, Nameless, and_self, and_true, true_and]; done) | (simp [NamelessL, Nameless, u32s_nameless, namelessL_ints, d_int]; done)) (by first | trivial | (simp only [NamelessL, Nameless, and_self, and_true, true_and]; done) | (simp [NamelessL, Nameless, u32s_nameless, namelessL_ints, d_int]; done)) ?_
  refine of_eq (B := letI z3 := (unu (u32s xs)); letI z4 := (unu (u32s ys)); letI z11 := (dg ((nv z3) * (nv z4))); letI z0 := (unu (u32s z11)); letI z5 := ((2 : Nat) ≤ (2 : Nat)); letI z13 := (((2 : Nat) = (2 : Nat)) ∧ z5); letI z9 := ((True ∧ (True ∧ True)) ∧ (True ∧ True)); letI z10 := ((iv xn xs) * (iv yn ys)); letI z12 := (D.v (Value.int IntKind.i64 (0 : Int))); letI z2 := (D.tup [(D.agg [(D.v (Value.bool (Decidable.decide (z10 < (0 : Int))))), (D.ro (List.length (ofL z10)) (u32s (ofL z10)))]), z12]); letI z1 := (True ∧ (z13 ∧ (True ∧ ((z5 ∧ True) ∧ (z9 ∧ ((D.tup [(D.agg [(D.v (Value.bool Bool.false)), (D.v (Value.slice (Option.none) (0 : Nat) (0 : Nat)))]), (D.v (Value.int IntKind.i64 (1 : Int)))]) = z2)))))); letI z6 := (unu (u32s (trimL z0))); letI z14 := List.length z3; letI z7 := (((u32s xs) = (u32s z3)) ∧ ((List.length xs) = z14)); letI z15 := List.length z4; letI z8 := (((u32s ys) = (u32s z4)) ∧ ((List.length ys) = z15)); letI z16 := List.length z6; letI z17 := ((0 : Nat) < (2 : Nat)); letI z18 := ((1 : Nat) < (2 : Nat)); letI z19 := (1000000000000 : Nat); (True ∧ (True ∧ (True ∧ (True ∧ (z5 ∧ ((z7 ∧ (z14 ≤ z19)) ∧ (True ∧ (True ∧ (pcond (!(validL xn z3)) (True ∧ z1) (z5 ∧ ((z8 ∧ (z15 ≤ z19)) ∧ (True ∧ (True ∧ (pcond (!(validL yn z4)) z1 (True ∧ ((z17 ∧ (IsBool (D.v (Value.bool xn)))) ∧ (True ∧ ((z17 ∧ (IsBool (D.v (Value.bool yn)))) ∧ (True ∧ (True ∧ (z18 ∧ (True ∧ (z18 ∧ ((z8 ∧ (z7 ∧ ((z14 ≤ (400000 : Nat)) ∧ ((z15 ≤ (400000 : Nat)) ∧ ((Dig z3) ∧ (Dig z4)))))) ∧ (((((u32s z11) = (u32s z0)) ∧ ((List.length z11) = (List.length z0))) ∧ ((List.length z0) ≤ (1000000 : Nat))) ∧ (((((u32s (trimL z0)) = (u32s z6)) ∧ ((List.length (trimL z0)) = z16)) ∧ (z16 ≤ (400 : Nat))) ∧ (True ∧ (True ∧ (z13 ∧ (True ∧ ((Bool.true = Bool.true) ∧ ((z5 ∧ True) ∧ (z9 ∧ ((D.tup [(D.agg [(D.v (Value.bool (madeN (!(xn == yn)) z0))), (D.ro z16 (u32s z6))]), z12]) = z2))))))))))))))))))))))))))))))))))) (by kernel_rfl) ?_
  simp only [true_and, and_true, and_self, IsInt_lit, IsBool_lit, IsStr_lit, Bool.not_eq_true', Bool.not_eq_false', Bool.not_true, Bool.not_false, Int.reduceLE, Int.reduceLT, Int.reduceNeg, Nat.le_refl, Int.le_refl, Nat.reduceLT, Nat.reduceLeDiff, Nat.reduceEqDiff, D.v.injEq, D.tup.injEq, D.agg.injEq, D.ro.injEq, List.cons.injEq, Value.int.injEq, Value.bool.injEq, pcond_true, pcond_false, NamelessL, Nameless, Nat.reduceMul, Nat.reduceAdd, Nat.zero_add, Int.toNat_natCast, unu_u32s]
  obtain ⟨⟨gx, lx⟩, gy, ly⟩ := hpre
  have dx := good_dig gx
  have dy := good_dig gy
  have hm := mul_iv xn yn xs ys
  have hl := dg_mul_len dx dy
  have ht := (madeN_dg true (nv xs * nv ys)).2
  rw [good_valid gx (by omega), good_valid gy (by omega), show (!xn == yn) = (xn != yn) from rfl, hm.1, hm.2]
  simp only [pcond_false, Bool.not_true]
  rw [hm.2] at ht
  rw [ht]
  refine ⟨by omega, by omega, ⟨by omega, by omega, dx, dy⟩, by omega, by omega, trivial, trivial, trivial⟩
def ent_Mul : Ent := fun ds => match ds with
  | [.agg [.v (.bool xn), .ro n_xs ys_xs], .agg [.v (.bool yn), .ro n_ys ys_ys]] => some (.tup [d_int (decide (iv xn (unu ys_xs) * iv yn (unu ys_ys) < 0)) (ofL (iv xn (unu ys_xs) * iv yn (unu ys_ys))), .v (.int .i64 0)], (ys_ys = u32s (unu ys_ys) ∧ n_ys = (unu ys_ys).length) ∧ (ys_xs = u32s (unu ys_xs) ∧ n_xs = (unu ys_xs).length) ∧ (Good xn (unu ys_xs) ∧ (unu ys_xs).length ≤ 100) ∧ Good yn (unu ys_ys) ∧ (unu ys_ys).length ≤ 100)
  | _ => none
theorem ent_Mul_ok : EntOk Try.prog 32 ent_Mul := by
  intro ds d c h hc; unfold ent_Mul at h; split at h
  · rename_i xn n_xs ys_xs yn n_ys ys_ys; obtain ⟨rfl, rfl⟩ := pair_inj h
    obtain ⟨⟨h1, h2⟩, hc⟩ := hc; subst h2; generalize (unu ys_ys) = ys at *; subst h1
    obtain ⟨⟨h1, h2⟩, hc⟩ := hc; subst h2; generalize (unu ys_xs) = xs at *; subst h1
    exact Mul_pure _ xs _ ys hc
  · cases h
end Go.Proofs.Ythnhfkpihbjddaa
end
section
namespace Go.Proofs.Ythnhfkpihbjddaa
open Go.VD
set_option linter.unusedVariables false
set_option linter.unusedSimpArgs false
set_option maxRecDepth 100000
def fitsI (v : Int) : Bool := decide (-9223372036854775808 ≤ v) && decide (v < 9223372036854775808)
theorem or_shift {a b : Nat} (ha : a < 4294967296) (hb : b < 4294967296) : Go.bits BinOp.or IntKind.u64 (IntKind.u64.wrap ((a : Int) * 4294967296)) (IntKind.u64.wrap (b : Int)) = ((b + 4294967296 * a : Nat) : Int) := by
  have e1 : IntKind.u64.wrap ((a : Int) * 4294967296) = ((4294967296 * a : Nat) : Int) := by rw [wrap_u64]; omega
  have e2 : IntKind.u64.wrap (b : Int) = (b : Int) := by rw [wrap_u64]; omega
  rw [e1, e2, bits_or_u64_nat (4294967296 * a) b (by omega) (by omega)]
  have := Nat.two_pow_add_eq_or_of_lt (i := 32) (b := b) (by omega) a
  rw [show (2 : Nat) ^ 32 = 4294967296 from rfl] at this
  rw [← this, Nat.add_comm]
end Go.Proofs.Ythnhfkpihbjddaa
end
section
namespace Go.Proofs.Ythnhfkpihbjddaa
open Go.VD
set_option linter.unusedVariables false
set_option linter.unusedSimpArgs false
set_option maxRecDepth 100000
def lp_itrimLoop (xs : List Nat) : LoopO := loopRule (α := Nat) (β := Unit) [] (fun k => k ≤ xs.length ∧ tn xs k = tn xs xs.length) (fun k => [(0, .ro xs.length (u32s xs)), (3, .v (.int .i64 (k : Int)))]) (fun _ => []) (xs.length) (fun _ => True) (fun _ => (.exit 0, [(0, .ro xs.length (u32s xs)), (3, .v (.int .i64 (tn xs xs.length : Nat)))], []))
theorem itrimLoop_rule (xs : List Nat) (hpre : xs.length ≤ 1000000) : LRuleP Try.prog Try.f89.ntmps (loopAt ((Try.f89.body).getD .skip) 2) (lp_itrimLoop xs) := by
  refine lrule_of (α := Nat) (β := Unit) (call := noCalls) (lp := fun _ => none) (N := 10) T_ok mixed noCalls_ok (fun k => k) (by kernel_rfl) (LpAllP.none _) ?_
  intro x hJ
  refine of_eq (B := letI z4 := (Exit.exit (0 : Nat)); letI z7 := List.length xs; letI z2 := (Prod.mk (0 : Nat) (D.ro z7 (u32s xs))); letI z3 := ([] : List (Option Blk)); letI z0 := (Prod.mk z4 (Prod.mk [z2, (Prod.mk (3 : Nat) (D.v (Value.int IntKind.i64 (((tn xs z7) : Nat) : Int))))] z3)); letI z9 := ((x : Nat) : Int); letI z1 := (IntKind.wrap IntKind.i64 (z9 - (1 : Int))); letI z10 := ((Int.toNat z1) * (1 : Nat)); letI z5 := (List.getD (u32s xs) z10 (Inhabited.default)); letI z6 := (Prod.mk (3 : Nat) (D.v (Value.int IntKind.i64 z9))); letI z8 := (List (Option Nat)); (True ∧ (True ∧ (True ∧ (pcond (Decidable.decide ((0 : Int) < z9)) (True ∧ (True ∧ (True ∧ ((((0 : Int) ≤ z1) ∧ (z1 < ((z7 : Nat) : Int))) ∧ (((z10 < (List.length (u32s xs))) ∧ (IsInt IntKind.u32 z5)) ∧ (True ∧ (True ∧ (pcond ((cellInt z5) == (0 : Int)) (True ∧ (True ∧ (True ∧ (∃ (y : Nat), (∃ (kp : z8), ((y < x) ∧ (((y ≤ z7) ∧ ((tn xs y) = (tn xs z7))) ∧ (viewAll kp [z2, (Prod.mk (3 : Nat) (D.v (Value.int IntKind.i64 z1)))] z3 [z2, (Prod.mk (3 : Nat) (D.v (Value.int IntKind.i64 ((y : Nat) : Int))))] z3)))))))) (∃ (r : Unit), (∃ (kp : z8), (True ∧ ((z4 = z4) ∧ (viewAll kp [z2, z6] z3 (Prod.fst (Prod.snd ((fun (x_1 : Unit) => z0) r))) (Prod.snd (Prod.snd ((fun (x_1 : Unit) => z0) r)))))))))))))))) (True ∧ (∃ (r : Unit), (∃ (kp : z8), (True ∧ ((z4 = z4) ∧ (viewAll kp [z2, z6] z3 (Prod.fst (Prod.snd ((fun (x_1 : Unit) => z0) r))) (Prod.snd (Prod.snd ((fun (x_1 : Unit) => z0) r)))))))))))))) (by kernel_rfl) ?_
  obtain ⟨hx, ht⟩ := hJ
  simp only [true_and, and_true, and_self, IsInt_lit, IsBool_lit, IsStr_lit, Bool.not_eq_true', Bool.not_eq_false', Bool.not_true, Bool.not_false, Int.reduceLE, Int.reduceLT, Int.reduceNeg, Nat.le_refl, Int.le_refl, Nat.reduceLT, Nat.reduceLeDiff, Nat.reduceEqDiff, D.v.injEq, D.tup.injEq, D.agg.injEq, D.ro.injEq, List.cons.injEq, Value.int.injEq, Value.bool.injEq, pcond_true, pcond_false, NamelessL, Nameless, Nat.reduceMul, Nat.reduceAdd, Nat.zero_add, Int.toNat_natCast]
  refine pcond_intro (fun h => ?_) (fun h => ⟨(), [], ?_⟩)
  · simp only [decide_eq_true_eq] at h
    obtain ⟨j, rfl⟩ : ∃ j, x = j + 1 := ⟨x - 1, by omega⟩
    have e : IntKind.i64.wrap (((j + 1 : Nat) : Int) - 1) = (j : Int) := by rw [wrap_i64_of (by omega) (by omega)]; omega
    simp only [e, Int.toNat_natCast, Nat.mul_one, u32s_cell, u32s_length, u32s_isInt _ _ (show j < xs.length by omega)]
    refine ⟨⟨by omega, by omega⟩, ⟨by omega, trivial⟩, pcond_intro (fun h2 => ⟨j, [], by omega, ⟨by omega, ?_⟩, ?_⟩) (fun h2 => ⟨(), [], ?_⟩)⟩
    · rw [← ht]; simp at h2; simp [tn, h2]
    · refine of_eq (B := letI z0 := (D.v (Value.int IntKind.i64 ((j : Nat) : Int))); letI z1 := (D.ro (List.length xs) (u32s xs)); letI z2 := ([] : List (Option Blk)); ((Bool.true = Bool.true) ∧ ((z2 = z2) ∧ ((True ∧ (z1 = z1)) ∧ ((True ∧ (z0 = z0)) ∧ True))))) (by kernel_rfl) ?_
      simp
    · refine of_eq (B := letI z0 := (D.ro (List.length xs) (u32s xs)); letI z1 := ([] : List (Option Blk)); ((Bool.true = Bool.true) ∧ ((z1 = z1) ∧ ((True ∧ (z0 = z0)) ∧ ((True ∧ ((D.v (Value.int IntKind.i64 (((j + (1 : Nat)) : Nat) : Int))) = (D.v (Value.int IntKind.i64 (((tn xs (List.length xs)) : Nat) : Int))))) ∧ True))))) (by kernel_rfl) ?_
      have : tn xs xs.length = j + 1 := by rw [← ht]; simp at h2; simp [tn, h2]
      simp [this]
  · refine of_eq (B := letI z0 := (D.ro (List.length xs) (u32s xs)); letI z1 := ([] : List (Option Blk)); ((Bool.true = Bool.true) ∧ ((z1 = z1) ∧ ((True ∧ (z0 = z0)) ∧ ((True ∧ ((D.v (Value.int IntKind.i64 ((x : Nat) : Int))) = (D.v (Value.int IntKind.i64 (((tn xs (List.length xs)) : Nat) : Int))))) ∧ True))))) (by kernel_rfl) ?_
    have : tn xs xs.length = x := by rw [← ht]; simp at h; subst h; rfl
    simp [this]
theorem itrim_pure (xs : List Nat) (hpre : xs.length ≤ 1000000) : PureJ Try.prog 89 [.ro xs.length (u32s xs)] (.ro (trimL xs).length (u32s (trimL xs))) := by
  refine pureJ_of_vcpN (call := noCalls) (lp := fun k => bif Nat.beq k 2 then some (lp_itrimLoop xs) else none) (N := 10) T_ok mixed noCalls_ok Try.func89 rfl (by decide) (by kernel_rfl) (by kernel_rfl) (of_eq (B := LRuleP Try.prog Try.f89.ntmps (loopAt ((Try.f89.body).getD .skip) 2) (lp_itrimLoop xs) ∧ True) (by kernel_rfl) ⟨itrimLoop_rule xs hpre, trivial⟩) (by first | trivial | (simp only [NamelessL, Nameless, and_self, and_true, true_and]; done) | (simp [NamelessL, Nameless, u32s_nameless, namelessL_ints]; done)) (by first | trivial | (simp only [NamelessL, Nameless, and_self, and_true, true_and]; done) | (simp [NamelessL, Nameless, u32s_nameless, namelessL_ints]; done)) ?_
  refine of_eq (B := letI z1 := List.length xs; letI z0 := (((tn xs z1) : Nat) : Int); letI z2 := (D.ro (List.length (trimL xs)) (u32s (trimL xs))); letI z3 := (D.v (Value.int IntKind.i64 ((z1 : Nat) : Int))); letI z4 := Int.toNat z0; letI z5 := ([] : List (Option Blk)); letI z6 := Bool.true = Bool.true; letI z7 := (D.ro z1 (u32s xs)); (True ∧ (True ∧ (True ∧ (True ∧ (((z1 ≤ z1) ∧ ((tn xs z1) = (tn xs z1))) ∧ ((z6 ∧ ((z5 = z5) ∧ ((True ∧ (z7 = z7)) ∧ ((True ∧ (z3 = z3)) ∧ True)))) ∧ (Unit → (True → (True ∧ (True ∧ (pcond (z0 == (0 : Int)) (True ∧ (True ∧ (True ∧ ((D.ro (0 : Nat) ([] : List D)) = z2)))) (True ∧ (True ∧ (True ∧ ((True ∧ ((((0 : Int) ≤ z0) ∧ (z0 ≤ ((z4 : Nat) : Int))) ∧ (((0 : Int) ≤ z0) ∧ ((z0 ≤ ((z1 : Nat) : Int)) ∧ z6)))) ∧ (True ∧ (True ∧ (True ∧ ((D.ro (z4 - (0 : Nat)) (List.take (z4 * (1 : Nat)) (u32s xs))) = z2)))))))))))))))))))) (by kernel_rfl) ?_
  have ht := tn_le xs xs.length
  simp only [true_and, and_true, and_self, IsInt_lit, IsBool_lit, IsStr_lit, Bool.not_eq_true', Bool.not_eq_false', Bool.not_true, Bool.not_false, Int.reduceLE, Int.reduceLT, Int.reduceNeg, Nat.le_refl, Int.le_refl, Nat.reduceLT, Nat.reduceLeDiff, Nat.reduceEqDiff, D.v.injEq, D.tup.injEq, D.agg.injEq, D.ro.injEq, List.cons.injEq, Value.int.injEq, Value.bool.injEq, pcond_true, pcond_false, NamelessL, Nameless, Nat.reduceMul, Nat.reduceAdd, Nat.zero_add, Int.toNat_natCast, Nat.mul_one, Nat.sub_zero, u32s_take, List.nil_append, List.drop_zero, List.take_take, Nat.min_self, u32s_length, List.length_take, trimL_length, u32s_nameless]
  refine fun _ _ => pcond_intro (fun h => ?_) (fun h => ⟨⟨by omega, by omega, by omega⟩, rfl⟩)
  have h0 : tn xs xs.length = 0 := by simp at h; omega
  exact ⟨h0.symm, by unfold trimL; rw [h0]; rfl⟩
def ent_itrim : Ent := fun ds => match ds with
  | [.ro n_xs ys_xs] => some (.ro (trimL (unu ys_xs)).length (u32s (trimL (unu ys_xs))), (ys_xs = u32s (unu ys_xs) ∧ n_xs = (unu ys_xs).length) ∧ (unu ys_xs).length ≤ 1000000)
  | _ => none
theorem ent_itrim_ok : EntOk Try.prog 89 ent_itrim := by
  intro ds d c h hc; unfold ent_itrim at h; split at h
  · rename_i n_xs ys_xs; obtain ⟨rfl, rfl⟩ := pair_inj h
    obtain ⟨⟨h1, h2⟩, hc⟩ := hc; subst h2; generalize (unu ys_xs) = xs at *; subst h1
    exact itrim_pure xs hc
  · cases h
theorem iat_pure (xs : List Nat) (i : Int) (hpre : 0 ≤ i) : PureJ Try.prog 96 [.ro xs.length (u32s xs), .v (.int .i64 i)] (.v (.int .u32 (xs.getD i.toNat 0 : Nat))) := by
  refine pureJ_of_vcx (call := noCalls) (lp := fun _ => none) (N := 10) T_ok mixed noCalls_ok Try.func96 rfl (by decide) (by kernel_rfl) (by kernel_rfl) (LpAll.none _) (by first | trivial | (simp only [NamelessL, Nameless, and_self, and_true, true_and]; done) | (simp [NamelessL, Nameless, u32s_nameless, namelessL_ints]; done)) (by first | trivial | (simp only [NamelessL, Nameless, and_self, and_true, true_and]; done) | (simp [NamelessL, Nameless, u32s_nameless, namelessL_ints]; done)) ?_
  refine of_eq (B := letI z0 := (D.v (Value.int IntKind.u32 (((List.getD xs (Int.toNat i) (0 : Nat)) : Nat) : Int))); letI z3 := ((Int.toNat i) * (1 : Nat)); letI z1 := (List.getD (u32s xs) z3 (Inhabited.default)); letI z2 := (((List.length xs) : Nat) : Int); (True ∧ (True ∧ (True ∧ (True ∧ (True ∧ (pcond (Decidable.decide (i < z2)) (True ∧ (True ∧ ((((0 : Int) ≤ i) ∧ (i < z2)) ∧ (((z3 < (List.length (u32s xs))) ∧ (IsInt IntKind.u32 z1)) ∧ (True ∧ (True ∧ (True ∧ ((D.v (Value.int IntKind.u32 (cellInt z1))) = z0)))))))) (True ∧ (True ∧ (True ∧ ((D.v (Value.int IntKind.u32 (0 : Int))) = z0))))))))))) (by kernel_rfl) ?_
  simp only [true_and, and_true, and_self, IsInt_lit, IsBool_lit, IsStr_lit, Bool.not_eq_true', Bool.not_eq_false', Bool.not_true, Bool.not_false, Int.reduceLE, Int.reduceLT, Int.reduceNeg, Nat.le_refl, Int.le_refl, Nat.reduceLT, Nat.reduceLeDiff, Nat.reduceEqDiff, D.v.injEq, D.tup.injEq, D.agg.injEq, D.ro.injEq, List.cons.injEq, Value.int.injEq, Value.bool.injEq, pcond_true, pcond_false, NamelessL, Nameless, Nat.reduceMul, Nat.reduceAdd, Nat.zero_add, Int.toNat_natCast, Nat.mul_one, u32s_cell, u32s_length]
  refine pcond_intro (fun h => ?_) (fun h => ?_)
  · simp only [decide_eq_true_eq] at h
    exact ⟨⟨hpre, h⟩, by omega, by rw [u32s_isInt _ _ (by omega)]; trivial⟩
  · simp only [decide_eq_false_iff_not] at h
    simp [List.getD_eq_getElem?_getD, List.getElem?_eq_none (show xs.length ≤ i.toNat by omega)]
def ent_iat : Ent := fun ds => match ds with
  | [.ro n_xs ys_xs, .v (.int .i64 i)] => some (.v (.int .u32 ((unu ys_xs).getD i.toNat 0 : Nat)), (ys_xs = u32s (unu ys_xs) ∧ n_xs = (unu ys_xs).length) ∧ 0 ≤ i)
  | _ => none
theorem ent_iat_ok : EntOk Try.prog 96 ent_iat := by
  intro ds d c h hc; unfold ent_iat at h; split at h
  · rename_i n_xs ys_xs i; obtain ⟨rfl, rfl⟩ := pair_inj h
    obtain ⟨⟨h1, h2⟩, hc⟩ := hc; subst h2; generalize (unu ys_xs) = xs at *; subst h1
    exact iat_pure xs _ hc
  · cases h
noncomputable def wordV (xs : List Nat) : Int := Classical.choose (p := fun v : Int => v = ((xs.getD 0 0 + 4294967296 * xs.getD 1 0 : Nat) : Int)) ⟨_, rfl⟩
theorem wordV_eq (xs : List Nat) : wordV xs = ((xs.getD 0 0 + 4294967296 * xs.getD 1 0 : Nat) : Int) := Classical.choose_spec (p := fun v : Int => v = ((xs.getD 0 0 + 4294967296 * xs.getD 1 0 : Nat) : Int)) ⟨_, rfl⟩
theorem iword_pure (xs : List Nat) (hpre : Dig xs) : PureJ Try.prog 106 [.ro xs.length (u32s xs)] (.v (.int .u64 (wordV xs))) := by
  refine pureJ_of_vcx (call := (addPure 96 ent_iat noCalls)) (lp := fun _ => none) (N := 10) T_ok mixed (addPure_ok ent_iat_ok noCalls_ok) Try.func106 rfl (by decide) (by kernel_rfl) (by kernel_rfl) (LpAll.none _) (by first | trivial | (simp only [NamelessL, Nameless, and_self, and_true, true_and]; done) | (simp [NamelessL, Nameless, u32s_nameless, namelessL_ints]; done)) (by first | trivial | (simp only [NamelessL, Nameless, and_self, and_true, true_and]; done) | (simp [NamelessL, Nameless, u32s_nameless, namelessL_ints]; done)) ?_
  refine of_eq (B := letI z1 := (unu (u32s xs)); letI z0 := (((u32s xs) = (u32s z1)) ∧ ((List.length xs) = (List.length z1))); (True ∧ (True ∧ ((z0 ∧ ((0 : Int) ≤ (1 : Int))) ∧ (True ∧ (((0 : Int) ≤ (32 : Int)) ∧ (True ∧ ((z0 ∧ ((0 : Int) ≤ (0 : Int))) ∧ (True ∧ (True ∧ (True ∧ (True ∧ (True ∧ ((D.v (Value.int IntKind.u64 (bits BinOp.or IntKind.u64 (IntKind.wrap IntKind.u64 ((IntKind.wrap IntKind.u64 (((List.getD z1 (1 : Nat) (0 : Nat)) : Nat) : Int)) * (4294967296 : Int))) (IntKind.wrap IntKind.u64 (((List.getD z1 (0 : Nat) (0 : Nat)) : Nat) : Int))))) = (D.v (Value.int IntKind.u64 (wordV xs))))))))))))))))) (by kernel_rfl) ?_
  simp only [true_and, and_true, and_self, IsInt_lit, IsBool_lit, IsStr_lit, Bool.not_eq_true', Bool.not_eq_false', Bool.not_true, Bool.not_false, Int.reduceLE, Int.reduceLT, Int.reduceNeg, Nat.le_refl, Int.le_refl, Nat.reduceLT, Nat.reduceLeDiff, Nat.reduceEqDiff, D.v.injEq, D.tup.injEq, D.agg.injEq, D.ro.injEq, List.cons.injEq, Value.int.injEq, Value.bool.injEq, pcond_true, pcond_false, NamelessL, Nameless, Nat.reduceMul, Nat.reduceAdd, Nat.zero_add, Int.toNat_natCast, unu_u32s]
  rw [wordV_eq]
  have h0 := hpre.get 0
  have h1 := hpre.get 1
  have := or_shift h1 h0
  rwa [show IntKind.u64.wrap (xs.getD 1 0 : Int) = (xs.getD 1 0 : Int) by rw [wrap_u64]; omega]
noncomputable def ent_iword : Ent := fun ds => match ds with
  | [.ro n_xs ys_xs] => some (.v (.int .u64 (wordV (unu ys_xs))), (ys_xs = u32s (unu ys_xs) ∧ n_xs = (unu ys_xs).length) ∧ Dig (unu ys_xs))
  | _ => none
theorem ent_iword_ok : EntOk Try.prog 106 ent_iword := by
  intro ds d c h hc; unfold ent_iword at h; split at h
  · rename_i n_xs ys_xs; obtain ⟨rfl, rfl⟩ := pair_inj h
    obtain ⟨⟨h1, h2⟩, hc⟩ := hc; subst h2; generalize (unu ys_xs) = xs at *; subst h1
    exact iword_pure xs hc
  · cases h
theorem isign_pure (b : Bool) : PureJ Try.prog 108 [.v (.bool b)] (.v (.int .i64 (if b then -1 else 1))) := by
  refine pureJ_of_vcx (call := noCalls) (lp := fun _ => none) (N := 10) T_ok mixed noCalls_ok Try.func108 rfl (by decide) (by kernel_rfl) (by kernel_rfl) (LpAll.none _) (by first | trivial | (simp only [NamelessL, Nameless, and_self, and_true, true_and]; done) | (simp [NamelessL, Nameless, u32s_nameless, namelessL_ints]; done)) (by first | trivial | (simp only [NamelessL, Nameless, and_self, and_true, true_and]; done) | (simp [NamelessL, Nameless, u32s_nameless, namelessL_ints]; done)) ?_
  refine of_eq (B := letI z0 := (D.v (Value.int IntKind.i64 (ite (b = Bool.true) (-(1 : Int)) (1 : Int)))); (True ∧ (True ∧ (pcond b (True ∧ (True ∧ (True ∧ ((D.v (Value.int IntKind.i64 (-(1 : Int)))) = z0)))) (True ∧ (True ∧ (True ∧ ((D.v (Value.int IntKind.i64 (1 : Int))) = z0)))))))) (by kernel_rfl) ?_
  simp only [true_and, and_true, and_self, IsInt_lit, IsBool_lit, IsStr_lit, Bool.not_eq_true', Bool.not_eq_false', Bool.not_true, Bool.not_false, Int.reduceLE, Int.reduceLT, Int.reduceNeg, Nat.le_refl, Int.le_refl, Nat.reduceLT, Nat.reduceLeDiff, Nat.reduceEqDiff, D.v.injEq, D.tup.injEq, D.agg.injEq, D.ro.injEq, List.cons.injEq, Value.int.injEq, Value.bool.injEq, pcond_true, pcond_false, NamelessL, Nameless, Nat.reduceMul, Nat.reduceAdd, Nat.zero_add, Int.toNat_natCast]
  refine pcond_intro (fun h => ?_) (fun h => ?_) <;> simp [h]
def ent_isign : Ent := fun ds => match ds with
  | [.v (.bool b)] => some (.v (.int .i64 (if b then -1 else 1)), True)
  | _ => none
theorem ent_isign_ok : EntOk Try.prog 108 ent_isign := by
  intro ds d c h hc; unfold ent_isign at h; split at h
  · obtain ⟨rfl, rfl⟩ := pair_inj h; exact isign_pure _
  · cases h
theorem idigits_pure (u : Int) (hpre : 0 ≤ u ∧ u < 18446744073709551616) : PureJ Try.prog 66 [.v (.int .u64 u)] (.ro (dg u.toNat).length (u32s (dg u.toNat))) := by
  refine pureJ_of_vcx (call := (addPure 89 ent_itrim noCalls)) (lp := fun _ => none) (N := 10) T_ok mixed (addPure_ok ent_itrim_ok noCalls_ok) Try.func66 rfl (by decide) (by kernel_rfl) (by kernel_rfl) (LpAll.none _) (by first | trivial | (simp only [NamelessL, Nameless, and_self, and_true, true_and]; done) | (simp [NamelessL, Nameless, u32s_nameless, namelessL_ints]; done)) (by first | trivial | (simp only [NamelessL, Nameless, and_self, and_true, true_and]; done) | (simp [NamelessL, Nameless, u32s_nameless, namelessL_ints]; done)) ?_
  refine of_eq (B := letI z2 := (D.v (Value.int IntKind.u32 (IntKind.wrap IntKind.u32 u))); letI z1 := (D.v (Value.int IntKind.u32 (IntKind.wrap IntKind.u32 (Int.fdiv u (4294967296 : Int))))); letI z0 := (unu [z2, z1]); (True ∧ (True ∧ (True ∧ (True ∧ (((0 : Int) ≤ (32 : Int)) ∧ (True ∧ ((((2 : Nat) ≤ (16777216 : Nat)) ∧ ((2 : Nat) ≤ (9223372036854775807 : Nat))) ∧ (((((NamelessL [z2, z1]) ∧ (((0 : Nat) < (1 : Nat)) ∧ ((2 : Nat) ≤ (2 : Nat)))) ∧ True) ∧ ((([z2, z1] = (u32s z0)) ∧ ((2 : Nat) = (List.length z0))) ∧ ((List.length z0) ≤ (1000000 : Nat)))) ∧ (True ∧ (True ∧ (True ∧ ((D.ro (List.length (trimL z0)) (u32s (trimL z0))) = (D.ro (List.length (dg (Int.toNat u))) (u32s (dg (Int.toNat u))))))))))))))))) (by kernel_rfl) ?_
  obtain ⟨h0, h1⟩ := hpre
  obtain ⟨u, rfl⟩ := Int.eq_ofNat_of_zero_le h0
  have e1 : IntKind.u32.wrap (u : Int) = ((u % 4294967296 : Nat) : Int) := by rw [wrap_u32]; omega
  have e2 : IntKind.u32.wrap ((u : Int).fdiv 4294967296) = ((u / 4294967296 % 4294967296 : Nat) : Int) := by rw [wrap_u32, Int.fdiv_eq_ediv_of_nonneg _ (by omega)]; omega
  have ht : trimL [u % 4294967296, u / 4294967296 % 4294967296] = dg u := trimL_dgn (k := 2) (v := u) (by omega)
  simp only [true_and, and_true, and_self, IsInt_lit, IsBool_lit, IsStr_lit, Bool.not_eq_true', Bool.not_eq_false', Bool.not_true, Bool.not_false, Int.reduceLE, Int.reduceLT, Int.reduceNeg, Nat.le_refl, Int.le_refl, Nat.reduceLT, Nat.reduceLeDiff, Nat.reduceEqDiff, D.v.injEq, D.tup.injEq, D.agg.injEq, D.ro.injEq, List.cons.injEq, Value.int.injEq, Value.bool.injEq, pcond_true, pcond_false, NamelessL, Nameless, Nat.reduceMul, Nat.reduceAdd, Nat.zero_add, Int.toNat_natCast, e1, e2, unu_two, ht]
  exact ⟨⟨rfl, rfl⟩, by simp⟩
def ent_idigits : Ent := fun ds => match ds with
  | [.v (.int .u64 u)] => some (.ro (dg u.toNat).length (u32s (dg u.toNat)), 0 ≤ u ∧ u < 18446744073709551616)
  | _ => none
theorem ent_idigits_ok : EntOk Try.prog 66 ent_idigits := by
  intro ds d c h hc; unfold ent_idigits at h; split at h
  · obtain ⟨rfl, rfl⟩ := pair_inj h; exact idigits_pure _ hc
  · cases h
theorem iValid_pure (neg : Bool) (xs : List Nat) (hpre : xs.length ≤ 1000000000000) : PureJ Try.prog 33 [.agg [.v (.bool neg), .ro xs.length (u32s xs)]] (.v (.bool (validL neg xs))) := by
  refine pureJ_of_vcx (call := noCalls) (lp := fun _ => none) (N := 10) T_ok mixed noCalls_ok Try.func33 rfl (by decide) (by kernel_rfl) (by kernel_rfl) (LpAll.none _) (by first | trivial | (simp only [NamelessL, Nameless, and_self, and_true, true_and]; done) | (simp [NamelessL, Nameless, u32s_nameless, namelessL_ints]; done)) (by first | trivial | (simp only [NamelessL, Nameless, and_self, and_true, true_and]; done) | (simp [NamelessL, Nameless, u32s_nameless, namelessL_ints]; done)) ?_
  refine of_eq (B := letI z1 := (((List.length xs) : Nat) : Int); letI z0 := (IntKind.wrap IntKind.i64 (z1 - (1 : Int))); letI z4 := ((Int.toNat z0) * (1 : Nat)); letI z2 := (List.getD (u32s xs) z4 (Inhabited.default)); letI z3 := (D.v (Value.bool (validL neg xs))); letI z5 := ((1 : Nat) < (2 : Nat)); (True ∧ (True ∧ (True ∧ (z5 ∧ (True ∧ (True ∧ (True ∧ (True ∧ (pcond (z1 == (0 : Int)) (True ∧ ((((0 : Nat) < (2 : Nat)) ∧ (IsBool (D.v (Value.bool neg)))) ∧ (True ∧ (True ∧ (True ∧ (True ∧ ((D.v (Value.bool (!neg))) = z3))))))) (True ∧ (True ∧ (True ∧ (pcond (Decidable.decide (z1 ≤ (400 : Int))) (True ∧ (z5 ∧ (True ∧ (True ∧ ((((0 : Int) ≤ z0) ∧ (z0 < z1)) ∧ (((z4 < (List.length (u32s xs))) ∧ (IsInt IntKind.u32 z2)) ∧ (True ∧ (True ∧ (True ∧ (True ∧ (True ∧ ((D.v (Value.bool ((cellInt z2) != (0 : Int)))) = z3)))))))))))) (True ∧ (True ∧ (True ∧ (True ∧ ((D.v (Value.bool Bool.false)) = z3))))))))))))))))))) (by kernel_rfl) ?_
  simp only [true_and, and_true, and_self, IsInt_lit, IsBool_lit, IsStr_lit, Bool.not_eq_true', Bool.not_eq_false', Bool.not_true, Bool.not_false, Int.reduceLE, Int.reduceLT, Int.reduceNeg, Nat.le_refl, Int.le_refl, Nat.reduceLT, Nat.reduceLeDiff, Nat.reduceEqDiff, D.v.injEq, D.tup.injEq, D.agg.injEq, D.ro.injEq, List.cons.injEq, Value.int.injEq, Value.bool.injEq, pcond_true, pcond_false, NamelessL, Nameless, Nat.reduceMul, Nat.reduceAdd, Nat.zero_add, Int.toNat_natCast, unu_u32s, cast_eq0, cast_ne0]
  rcases Nat.eq_zero_or_pos xs.length with h0 | h0
  · simp [h0, validL, pcond]
  · have e : IntKind.i64.wrap ((xs.length : Int) - 1) = ((xs.length - 1 : Nat) : Int) := by rw [wrap_i64_of (by omega) (by omega)]; omega
    have hne : ¬ xs.length = 0 := by omega
    simp only [e, Int.toNat_natCast, Nat.mul_one, u32s_cell, u32s_length, u32s_isInt _ _ (show xs.length - 1 < xs.length by omega), cast_ne0, hne, decide_false, pcond_false, and_true]
    refine pcond_intro (fun h => ⟨⟨by omega, by omega⟩, by omega, ?_⟩) (fun h => ?_)
    · have h4 : xs.length ≤ 400 := by simp only [decide_eq_true_eq] at h; omega
      simp [validL, hne, h4]
    · have h4 : ¬ xs.length ≤ 400 := by simp only [decide_eq_false_iff_not] at h; omega
      simp [validL, hne, h4]
def ent_iValid : Ent := fun ds => match ds with
  | [.agg [.v (.bool neg), .ro n_xs ys_xs]] => some (.v (.bool (validL neg (unu ys_xs))), (ys_xs = u32s (unu ys_xs) ∧ n_xs = (unu ys_xs).length) ∧ (unu ys_xs).length ≤ 1000000000000)
  | _ => none
theorem ent_iValid_ok : EntOk Try.prog 33 ent_iValid := by
  intro ds d c h hc; unfold ent_iValid at h; split at h
  · rename_i neg n_xs ys_xs; obtain ⟨rfl, rfl⟩ := pair_inj h
    obtain ⟨⟨h1, h2⟩, hc⟩ := hc; subst h2; generalize (unu ys_xs) = xs at *; subst h1
    exact iValid_pure _ xs hc
  · cases h
theorem iOf_pure (n : Int) (hpre : -9223372036854775808 ≤ n ∧ n < 9223372036854775808) : PureJ Try.prog 27 [.v (.int .i64 n)] (d_int (decide (n < 0)) (ofL n)) := by
  refine pureJ_of_vcx (call := (addPure 66 ent_idigits noCalls)) (lp := fun _ => none) (N := 10) T_ok mixed (addPure_ok ent_idigits_ok noCalls_ok) Try.func27 rfl (by decide) (by kernel_rfl) (by kernel_rfl) (LpAll.none _) (by first | trivial | (simp only [NamelessL, Nameless, and_self, and_true, true_and]; done) | (simp [NamelessL, Nameless, u32s_nameless, namelessL_ints, d_int]; done)) (by first | trivial | (simp only [NamelessL, Nameless, and_self, and_true, true_and]; done) | (simp [NamelessL, Nameless, u32s_nameless, namelessL_ints, d_int]; done)) ?_
  refine of_eq (B := letI z2 := IntKind.wrap IntKind.u64 n; letI z0 := (IntKind.wrap IntKind.u64 ((0 : Int) - z2)); letI z5 := (Decidable.decide (n < (0 : Int))); letI z1 := (D.v (Value.bool z5)); letI z3 := ((2 : Nat) ≤ (2 : Nat)); letI z4 := (D.agg [z1, (D.ro (List.length (ofL n)) (u32s (ofL n)))]); letI z6 := (((2 : Nat) = (2 : Nat)) ∧ z3); letI z7 := (18446744073709551616 : Int); letI z8 := (True ∧ (True ∧ True)); letI z9 := (dg (Int.toNat z0)); letI z10 := (dg (Int.toNat z2)); (True ∧ (True ∧ (True ∧ (True ∧ (True ∧ (True ∧ (pcond z5 (True ∧ (True ∧ (True ∧ (True ∧ (True ∧ (True ∧ ((((0 : Int) ≤ z0) ∧ (z0 < z7)) ∧ (True ∧ (z6 ∧ ((z3 ∧ True) ∧ (z8 ∧ ((D.agg [z1, (D.ro (List.length z9) (u32s z9))]) = z4)))))))))))) (True ∧ (True ∧ (True ∧ ((((0 : Int) ≤ z2) ∧ (z2 < z7)) ∧ (True ∧ (z6 ∧ ((z3 ∧ True) ∧ (z8 ∧ ((D.agg [z1, (D.ro (List.length z10) (u32s z10))]) = z4))))))))))))))))) (by kernel_rfl) ?_
  simp only [true_and, and_true, and_self, IsInt_lit, IsBool_lit, IsStr_lit, Bool.not_eq_true', Bool.not_eq_false', Bool.not_true, Bool.not_false, Int.reduceLE, Int.reduceLT, Int.reduceNeg, Nat.le_refl, Int.le_refl, Nat.reduceLT, Nat.reduceLeDiff, Nat.reduceEqDiff, D.v.injEq, D.tup.injEq, D.agg.injEq, D.ro.injEq, List.cons.injEq, Value.int.injEq, Value.bool.injEq, pcond_true, pcond_false, NamelessL, Nameless, Nat.reduceMul, Nat.reduceAdd, Nat.zero_add, Int.toNat_natCast, unu_u32s, wrap_u64]
  refine pcond_intro (fun h => ?_) (fun h => ?_)
  · simp only [decide_eq_true_eq] at h
    have e : ((0 - n % 18446744073709551616) % 18446744073709551616).toNat = n.natAbs := by omega
    rw [e]
    exact ⟨⟨by omega, by omega⟩, rfl, rfl⟩
  · simp only [decide_eq_false_iff_not] at h
    have e : (n % 18446744073709551616).toNat = n.natAbs := by omega
    rw [e]
    exact ⟨⟨by omega, by omega⟩, rfl, rfl⟩
def ent_iOf : Ent := fun ds => match ds with
  | [.v (.int .i64 n)] => some (d_int (decide (n < 0)) (ofL n), -9223372036854775808 ≤ n ∧ n < 9223372036854775808)
  | _ => none
theorem ent_iOf_ok : EntOk Try.prog 27 ent_iOf := by
  intro ds d c h hc; unfold ent_iOf at h; split at h
  · obtain ⟨rfl, rfl⟩ := pair_inj h; exact iOf_pure _ hc
  · cases h
end Go.Proofs.Ythnhfkpihbjddaa
end
section
namespace Go.Proofs.Ythnhfkpihbjddaa
open Go
set_option linter.unusedVariables false
set_option linter.unusedSimpArgs false
theorem bits_u32_nat (op : BinOp) (f : BitVec 32 → BitVec 32 → BitVec 32) (g : Nat → Nat → Nat) (hop : ∀ a b : Int, bits op .u32 a b = IntKind.u32.wrap ((f (BitVec.ofInt 32 a) (BitVec.ofInt 32 b)).toNat : Int)) (hf : ∀ x y, (f x y).toNat = g x.toNat y.toNat) (a b : Nat) (ha : a < 4294967296) (hb : b < 4294967296) :
    bits op .u32 (a : Int) (b : Int) = ((g a b : Nat) : Int) := by
  have h1 : (BitVec.ofInt 32 (a : Int)).toNat = a := by
    rw [BitVec.ofInt_natCast, BitVec.toNat_ofNat]; exact Nat.mod_eq_of_lt (by omega)
  have h2 : (BitVec.ofInt 32 (b : Int)).toNat = b := by
    rw [BitVec.ofInt_natCast, BitVec.toNat_ofNat]; exact Nat.mod_eq_of_lt (by omega)
  have h3 := hf (BitVec.ofInt 32 (a : Int)) (BitVec.ofInt 32 (b : Int))
  rw [h1, h2] at h3
  have h4 := (f (BitVec.ofInt 32 (a : Int)) (BitVec.ofInt 32 (b : Int))).isLt
  rw [hop, h3]
  rw [h3] at h4
  have : ∀ n : Int, IntKind.u32.wrap n = n % 4294967296 := fun n => by simp [IntKind.wrap, IntKind.bits, IntKind.signed]
  rw [this]
  omega
theorem bits_and_u32_nat (a b : Nat) (ha : a < 4294967296) (hb : b < 4294967296) : bits .and .u32 (a : Int) (b : Int) = ((a &&& b : Nat) : Int) :=
  bits_u32_nat .and (· &&& ·) (· &&& ·) (fun _ _ => rfl) (fun _ _ => BitVec.toNat_and ..) a b ha hb
theorem bits_or_u32_nat (a b : Nat) (ha : a < 4294967296) (hb : b < 4294967296) : bits .or .u32 (a : Int) (b : Int) = ((a ||| b : Nat) : Int) :=
  bits_u32_nat .or (· ||| ·) (· ||| ·) (fun _ _ => rfl) (fun _ _ => BitVec.toNat_or ..) a b ha hb
theorem bits_xor_u32_nat (a b : Nat) (ha : a < 4294967296) (hb : b < 4294967296) : bits .xor .u32 (a : Int) (b : Int) = ((a ^^^ b : Nat) : Int) :=
  bits_u32_nat .xor (· ^^^ ·) (· ^^^ ·) (fun _ _ => rfl) (fun _ _ => BitVec.toNat_xor ..) a b ha hb
theorem top32 (a : Nat) (h : a < 4294967296) : a.testBit 31 = decide (2147483648 ≤ a) := by
  rw [Nat.testBit_eq_decide_div_mod_eq, decide_eq_decide]; omega
theorem borrow32 (x y b d : Nat) (hx : x < 4294967296) (hy : y < 4294967296) (hb : b ≤ 1) (hd : d = (x + 8589934592 - y - b) % 4294967296) :
    (((4294967295 ^^^ x) &&& y) ||| ((4294967295 ^^^ (x ^^^ y)) &&& d)) / 2147483648 = if x < y + b then 1 else 0 := by
  have n1 : (4294967295 ^^^ x) < 2 ^ 32 := Nat.xor_lt_two_pow (by omega) (by omega)
  have n2 : (x ^^^ y) < 2 ^ 32 := Nat.xor_lt_two_pow (by omega) (by omega)
  have n3 : (4294967295 ^^^ (x ^^^ y)) < 2 ^ 32 := Nat.xor_lt_two_pow (by omega) n2
  have hlt : (((4294967295 ^^^ x) &&& y) ||| ((4294967295 ^^^ (x ^^^ y)) &&& d)) < 2 ^ 32 := Nat.or_lt_two_pow (Nat.and_lt_two_pow _ (by omega)) (Nat.and_lt_two_pow _ (by omega))
  have ht := top32 _ (show _ < 4294967296 from hlt)
  rw [Nat.testBit_or, Nat.testBit_and, Nat.testBit_and, Nat.testBit_xor, Nat.testBit_xor, Nat.testBit_xor, top32 x hx, top32 y hy, top32 d (by omega)] at ht
  generalize (((4294967295 ^^^ x) &&& y) ||| ((4294967295 ^^^ (x ^^^ y)) &&& d)) = r at *
  have e : r / 2147483648 = if 2147483648 ≤ r then 1 else 0 := by split <;> omega
  rw [e]
  have k : decide (2147483648 ≤ r) = decide (x < y + b) := by
    rw [← ht]
    rw [show Nat.testBit 4294967295 31 = true from rfl]
    by_cases h1 : 2147483648 ≤ x <;> by_cases h2 : 2147483648 ≤ y <;> simp [h1, h2] <;> omega
  rw [decide_eq_decide] at k
  by_cases h : x < y + b
  · rw [if_pos h, if_pos (k.2 h)]
  · rw [if_neg h, if_neg (fun z => h (k.1 z))]
end Go.Proofs.Ythnhfkpihbjddaa
end
