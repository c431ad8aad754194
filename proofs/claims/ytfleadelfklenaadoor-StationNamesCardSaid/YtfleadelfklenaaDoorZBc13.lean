import Derived.Test.YtfleadelfklenaaDoorZBc12
section
namespace Go.Proofs.YtfleadelfklenaaDoor
open Go.VD
set_option linter.unusedVariables false
set_option linter.unusedSimpArgs false
set_option maxRecDepth 100000
def okBays (l : List Bay) : Prop := l.length ≤ maxLen ∧ ∀ x ∈ l, okBay x
theorem okBays_ls {l : List Bay} (h : okBays l) {i : Nat} (hi : i < l.length) : (l.getD i default).ls.length ≤ maxLen := (h.2 _ (getD_mem hi)).2.2.2.1.1
theorem okStn_bays {s : Stn} (h : okStn s) : okBays s.ba := h.2.2.2.2
def allIN {α : Type} [Inhabited α] (p : α → α → Bool) (a b : List α) (n : Nat) : Bool := (List.range n).all fun i => p (a.getD i default) (b.getD i default)
def c1 (a b : Stn) : Bool := allIN sE a.bu b.bu a.bu.length
def c2 (a b : Stn) : Bool := c1 a b && allIN linE a.li b.li a.li.length
def c3 (a b : Stn) : Bool := c2 a b && allIN srcE a.so b.so a.so.length
def c4 (a b : Stn) : Bool := c3 a b && allIN bayE a.ba b.ba a.ba.length
def StnOk (s : Stn) (nb nl ns ny : Nat) (xb xl xs xy : List D) : Prop := (BusOk nb xb ∧ LinOk nl xl ∧ SrcOk ns xs ∧ BayOk ny xy) ∧ okStn s
theorem StnOk_lit (s t : Stn) : StnOk t s.bu.length s.li.length s.so.length s.ba.length (busesD s.bu) (linesD s.li) (srcsD s.so) (baysD s.ba) = ((s.bu.length ≤ maxLen ∧ s.li.length ≤ maxLen ∧ s.so.length ≤ maxLen ∧ s.ba.length ≤ maxLen) ∧ okStn t) := by
  unfold StnOk; rw [BusOk_lit, LinOk_lit, SrcOk_lit, BayOk_lit]
theorem okStn_lens {s : Stn} (h : okStn s) : s.bu.length ≤ maxLen ∧ s.li.length ≤ maxLen ∧ s.so.length ≤ maxLen ∧ s.ba.length ≤ maxLen := ⟨h.2.1.1, h.2.2.1.1, h.2.2.2.1.1, h.2.2.2.2.1⟩
def ent1 (v : Stn → Value) : Ent := fun ds => match ds with
  | [.agg [.v (.string n), .ro nb xb, .ro nl xl, .ro ns xs, .ro ny xy]] =>
    some (.v (v ⟨n, unBus xb, unLin xl, unSrc xs, unBay xy⟩), StnOk ⟨n, unBus xb, unLin xl, unSrc xs, unBay xy⟩ nb nl ns ny xb xl xs xy)
  | _ => none
theorem ent1_of (v : Stn → Value) (f : FuncId) (hf : ∀ a : Stn, okStn a → PureJ Tryd.prog f [.agg (d_stnL a)] (.v (v a))) : EntOk Tryd.prog f (ent1 v) := by
  intro ds d c hd hc; unfold ent1 at hd; split at hd
  · rename_i n nb xb nl xl ns xs ny xy
    obtain ⟨rfl, rfl⟩ := pair_inj hd
    obtain ⟨⟨⟨⟨a1, a2⟩, -⟩, ⟨⟨b1, b2⟩, -⟩, ⟨⟨c1, c2⟩, -⟩, ⟨⟨d1, d2⟩, -⟩⟩, ho⟩ := hc
    generalize unBus xb = u1 at *
    generalize unLin xl = u2 at *
    generalize unSrc xs = u3 at *
    generalize unBay xy = u4 at *
    subst a1; subst a2; subst b1; subst b2; subst c1; subst c2; subst d1; subst d2
    exact hf ⟨n, u1, u2, u3, u4⟩ ho
  · cases hd
def largeB (l : List Bay) : Bool := (List.range l.length).any fun i => decide (6 < (l.getD i default).ls.length)
def largeS (s : Stn) : Bool := decide (8 < s.bu.length) || (decide (10 < s.li.length) || (decide (8 < s.so.length) || (decide (20 < s.ba.length) || largeB s.ba)))
def lp_largeLoop (s : Stn) : LoopO := loopRule2 (α := Nat) (β := Unit) (γ := Unit) [some 0] (fun i => i ≤ s.ba.length ∧ ∀ j, j < i → (s.ba.getD j default).ls.length ≤ 6) (fun i => [(1, .ptr 0 0), (3, d_i (i : Int))]) (fun i => [some ⟨27, d_stnL s, true⟩]) (0) (fun _ => largeB s.ba = false) (fun _ => (.exit 0, [], [])) (fun _ => largeB s.ba = true) (fun _ => (.ret, [(2, .v (.bool true))], []))
theorem largeLoop_rule (s : Stn) (hpre : okStn s) : LRuleP Tryd.prog Tryd.f6.ntmps (loopAt ((Tryd.f6.body).getD .skip) 4) (lp_largeLoop s) := by
  refine lrule_of2 (α := Nat) (β := Unit) (γ := Unit) (call := noCalls) (lp := fun _ => none) (N := 10) T_ok mixed noCalls_ok (fun i => s.ba.length - i) (by kernel_rfl) (LpAllP.none _) ?_
  intro x hJ
  refine of_eq (B := letI z4 := (List.length (Stn.ba s)); letI z13 := (baysD (Stn.ba s)); letI z0 := (Option.some (Blk.mk (27 : Nat) [(D.v (Value.string (Stn.n s))), (D.ro (List.length (Stn.bu s)) (busesD (Stn.bu s))), (D.ro (List.length (Stn.li s)) (linesD (Stn.li s))), (D.ro (List.length (Stn.so s)) (srcsD (Stn.so s))), (D.ro z4 z13)] Bool.true)); letI z11 := (Prod.mk (2 : Nat) (D.v (Value.bool Bool.true))); letI z14 := ([] : List (Option Blk)); letI z1 := (Prod.mk Exit.ret (Prod.mk [z11] z14)); letI z5 := (Exit.exit (0 : Nat)); letI z7 := ([] : List (Prod Nat D)); letI z2 := (Prod.mk z5 (Prod.mk z7 z14)); letI z8 := ((x : Nat) : Int); letI z3 := (((Int.toNat z8) * (12 : Nat)) + (6 : Nat)); letI z6 := (List (Option Nat)); letI z9 := (List.getD z13 z3 (Inhabited.default)); letI z10 := (largeB (Stn.ba s)); letI z12 := (Prod.mk (1 : Nat) (D.ptr (0 : Nat) (0 : Nat))); letI z15 := ((4 : Nat) < (5 : Nat)); (True ∧ (True ∧ (z15 ∧ (True ∧ (True ∧ (pcond (Decidable.decide (z8 < ((z4 : Nat) : Int))) (True ∧ (z15 ∧ (True ∧ ((((0 : Int) ≤ z8) ∧ (z8 < ((z4 : Nat) : Int))) ∧ (True ∧ (((z3 < (List.length z13)) ∧ (IsSl z9)) ∧ (True ∧ (True ∧ (pcond (Decidable.decide ((6 : Int) < (((cellN z9) : Nat) : Int))) (True ∧ ((∃ (r : Unit), (∃ (kp : z6), ((z10 = Bool.false) ∧ ((Exit.ret = z5) ∧ (viewAll kp z7 [z0] (Prod.fst (Prod.snd ((fun (x_1 : Unit) => z2) r))) (Prod.snd (Prod.snd ((fun (x_1 : Unit) => z2) r)))))))) ∨ (∃ (r : Unit), (∃ (kp : z6), ((z10 = Bool.true) ∧ ((Exit.ret = Exit.ret) ∧ (viewAll kp [z11] [z0] (Prod.fst (Prod.snd ((fun (x_1 : Unit) => z1) r))) (Prod.snd (Prod.snd ((fun (x_1 : Unit) => z1) r)))))))))) (True ∧ (True ∧ (True ∧ (∃ (y : Nat), (∃ (kp : z6), (((z4 - y) < (z4 - x)) ∧ (((y ≤ z4) ∧ (∀ (j : Nat), ((j < y) → ((List.length (Bay.ls (List.getD (Stn.ba s) j (Inhabited.default)))) ≤ (6 : Nat))))) ∧ (viewAll kp [z12, (Prod.mk (3 : Nat) (D.v (Value.int IntKind.i64 (IntKind.wrap IntKind.i64 (z8 + (1 : Int))))))] [z0] [z12, (Prod.mk (3 : Nat) (d_i ((y : Nat) : Int)))] [(Option.some (Blk.mk (27 : TypeId) (d_stnL s) Bool.true))]))))))))))))))))) ((∃ (r : Unit), (∃ (kp : z6), ((z10 = Bool.false) ∧ ((z5 = z5) ∧ (viewAll kp z7 [z0] (Prod.fst (Prod.snd ((fun (x_1 : Unit) => z2) r))) (Prod.snd (Prod.snd ((fun (x_1 : Unit) => z2) r)))))))) ∨ (∃ (r : Unit), (∃ (kp : z6), ((z10 = Bool.true) ∧ ((z5 = Exit.ret) ∧ (viewAll kp z7 [z0] (Prod.fst (Prod.snd ((fun (x_1 : Unit) => z1) r))) (Prod.snd (Prod.snd ((fun (x_1 : Unit) => z1) r)))))))))))))))) (by kernel_rfl) ?_
  have hm : s.ba.length ≤ 9223372036854775807 := hpre.2.2.2.2.1
  obtain ⟨hx, hall⟩ := hJ
  simp only [true_and, and_true, and_self, IsInt_lit, IsBool_lit, IsStr_lit, IsSl_lit, cellN_lit, cellL_lit, Bool.not_eq_true', Bool.not_eq_false', Bool.not_true, Bool.not_false, Int.reduceLE, Int.reduceLT, Int.reduceNeg, Nat.le_refl, Int.le_refl, Nat.reduceLT, Nat.reduceLeDiff, Nat.reduceEqDiff, D.v.injEq, D.tup.injEq, D.agg.injEq, D.ro.injEq, List.cons.injEq, Value.int.injEq, Value.bool.injEq, pcond_true, pcond_false, NamelessL, Nameless, Nat.reduceMul, Nat.reduceAdd, Nat.zero_add, Int.toNat_natCast]
  refine pcond_intro (fun h => ?_) (fun h => .inl ⟨(), [], ?_, ⟨rfl, rfl, trivial⟩⟩)
  · simp only [decide_eq_true_eq] at h
    have hxa : x < s.ba.length := by omega
    have ga := baysD_get s.ba x hxa
    have ha := baysD_length s.ba
    simp only [ga, cellN_lit, cellL_lit, IsSl_lit, wrap_succ hxa hm, true_and, and_true]
    refine ⟨⟨by omega, by omega⟩, by omega, pcond_intro (fun h1 => .inr ⟨(), [], ?_, ⟨rfl, rfl, ⟨trivial, rfl⟩, trivial⟩⟩) (fun h1 => ⟨x + 1, [some 0], by omega, ⟨by omega, fun j hj => ?_⟩, ?_⟩)⟩
    · unfold largeB; rw [List.any_eq_true]
      exact ⟨x, List.mem_range.2 hxa, by simp only [decide_eq_true_eq] at *; omega⟩
    · simp only [decide_eq_false_iff_not] at h1
      rcases Nat.lt_or_ge j x with h2 | h2
      · exact hall j h2
      · rw [show j = x by omega]; omega
    · refine of_eq (B := letI z6 := (D.v (Value.string (Stn.n s))); letI z2 := (D.ro (List.length (Stn.bu s)) (busesD (Stn.bu s))); letI z3 := (D.ro (List.length (Stn.li s)) (linesD (Stn.li s))); letI z4 := (D.ro (List.length (Stn.so s)) (srcsD (Stn.so s))); letI z5 := (D.ro (List.length (Stn.ba s)) (baysD (Stn.ba s))); letI z0 := (Option.some (Blk.mk (27 : Nat) [z6, z2, z3, z4, z5] Bool.true)); letI z1 := (D.v (Value.int IntKind.i64 (((x + (1 : Nat)) : Nat) : Int))); letI z7 := (D.ptr (0 : Nat) (0 : Nat)); letI z8 := ([] : List (Option Blk)); ((Bool.true = Bool.true) ∧ ((((z0 = z0) ∧ (NamelessL [z6, z2, z3, z4, z5])) ∧ (z8 = z8)) ∧ ((True ∧ (z7 = z7)) ∧ ((True ∧ (z1 = z1)) ∧ True))))) (by kernel_rfl) ?_; simp [NamelessL, Nameless, busesD_nl, linesD_nl, srcsD_nl, baysD_nl]
  · simp only [decide_eq_false_iff_not] at h
    unfold largeB; rw [List.any_eq_false]
    intro i hi
    have := hall i (by have := List.mem_range.1 hi; omega)
    simp only [decide_eq_true_eq]; omega
theorem large_pure (s : Stn) (hpre : okStn s) : PureJ Tryd.prog 6 [.agg (d_stnL s)] (.v (.bool (largeS s))) := by
  refine pureJ_of_vcp (call := noCalls) (lp := fun reg__ => bif Nat.beq reg__ 4 then some (lp_largeLoop s) else none) (N := 10) T_ok mixed noCalls_ok Tryd.func6 rfl (by decide) (by kernel_rfl) (by kernel_rfl) (of_eq (B := LRuleP Tryd.prog Tryd.f6.ntmps (loopAt ((Tryd.f6.body).getD .skip) 4) (lp_largeLoop s) ∧ True) (by kernel_rfl) ⟨largeLoop_rule s hpre, trivial⟩) (by first | exact ⟨stnD_nl s, trivial⟩ | trivial) (by first | exact ⟨stnD_nl s, trivial⟩ | trivial) ?_
  refine of_eq (B := letI z9 := (D.v (Value.bool (largeS s))); letI z0 := (True ∧ (True ∧ ((D.v (Value.bool Bool.true)) = z9))); letI z8 := (D.v (Value.string (Stn.n s))); letI z12 := (List.length (Stn.bu s)); letI z3 := (D.ro z12 (busesD (Stn.bu s))); letI z13 := (List.length (Stn.li s)); letI z4 := (D.ro z13 (linesD (Stn.li s))); letI z14 := (List.length (Stn.so s)); letI z5 := (D.ro z14 (srcsD (Stn.so s))); letI z2 := (List.length (Stn.ba s)); letI z10 := (D.ro z2 (baysD (Stn.ba s))); letI z1 := (Option.some (Blk.mk (27 : Nat) [z8, z3, z4, z5, z10] Bool.true)); letI z15 := (True ∧ (True ∧ z0)); letI z6 := (True ∧ (True ∧ z15)); letI z7 := (D.v (Value.int IntKind.i64 (0 : Int))); letI z11 := (D.ptr (0 : Nat) (0 : Nat)); letI z16 := ([] : List (Option Blk)); letI z17 := (largeB (Stn.ba s)); (True ∧ (True ∧ (True ∧ (((1 : Nat) < (5 : Nat)) ∧ (True ∧ (True ∧ (True ∧ (pcond (Decidable.decide ((8 : Int) < ((z12 : Nat) : Int))) (True ∧ (True ∧ z6)) (True ∧ (((2 : Nat) < (5 : Nat)) ∧ (True ∧ (True ∧ (True ∧ (True ∧ (pcond (Decidable.decide ((10 : Int) < ((z13 : Nat) : Int))) z6 (True ∧ (((3 : Nat) < (5 : Nat)) ∧ (True ∧ (True ∧ (True ∧ (True ∧ (pcond (Decidable.decide ((8 : Int) < ((z14 : Nat) : Int))) z15 (True ∧ (((4 : Nat) < (5 : Nat)) ∧ (True ∧ (True ∧ (True ∧ (pcond (Decidable.decide ((20 : Int) < ((z2 : Nat) : Int))) (True ∧ z0) (True ∧ ((((0 : Nat) ≤ z2) ∧ (∀ (j : Nat), ((j < (0 : Nat)) → ((List.length (Bay.ls (List.getD (Stn.ba s) j (Inhabited.default)))) ≤ (6 : Nat))))) ∧ (((Bool.true = Bool.true) ∧ ((((z1 = z1) ∧ (NamelessL [z8, z3, z4, z5, z10])) ∧ (z16 = z16)) ∧ ((True ∧ (z11 = z11)) ∧ ((True ∧ (z7 = z7)) ∧ True)))) ∧ ((Unit → ((z17 = Bool.false) → (True ∧ (True ∧ (True ∧ ((D.v (Value.bool Bool.false)) = z9)))))) ∧ (Unit → ((z17 = Bool.true) → z0))))))))))))))))))))))))))))))))))) (by kernel_rfl) ?_
  simp only [true_and, and_true, and_self, IsInt_lit, IsBool_lit, IsStr_lit, IsSl_lit, cellN_lit, cellL_lit, Bool.not_eq_true', Bool.not_eq_false', Bool.not_true, Bool.not_false, Int.reduceLE, Int.reduceLT, Int.reduceNeg, Nat.le_refl, Int.le_refl, Nat.reduceLT, Nat.reduceLeDiff, Nat.reduceEqDiff, D.v.injEq, D.tup.injEq, D.agg.injEq, D.ro.injEq, List.cons.injEq, Value.int.injEq, Value.bool.injEq, pcond_true, pcond_false, NamelessL, Nameless, Nat.reduceMul, Nat.reduceAdd, Nat.zero_add, Int.toNat_natCast]
  have e1 : ∀ (k n : Nat), decide ((k : Int) < (n : Int)) = decide (k < n) := fun k n => by rw [Bool.eq_iff_iff]; simp
  have f1 := e1 8 s.bu.length
  have f2 := e1 10 s.li.length
  have f3 := e1 8 s.so.length
  have f4 := e1 20 s.ba.length
  simp only [Int.ofNat_eq_natCast, Int.cast_ofNat_Int] at f1 f2 f3 f4
  rw [f1, f2, f3, f4]
  unfold largeS
  refine pcond_intro (fun h => by rw [h]; rfl) (fun h => ?_); rw [h, Bool.false_or]
  refine pcond_intro (fun h => by rw [h]; rfl) (fun h => ?_); rw [h, Bool.false_or]
  refine pcond_intro (fun h => by rw [h]; rfl) (fun h => ?_); rw [h, Bool.false_or]
  refine pcond_intro (fun h => by rw [h]; rfl) (fun h => ?_); rw [h, Bool.false_or]
  have nA : NamelessL (busesD s.bu) ∧ NamelessL (linesD s.li) ∧ NamelessL (srcsD s.so) ∧ NamelessL (baysD s.ba) := ⟨busesD_nl s.bu, linesD_nl s.li, srcsD_nl s.so, baysD_nl s.ba⟩
  refine ⟨⟨Nat.zero_le _, fun j h => absurd h (Nat.not_lt_zero _)⟩, nA, fun _ h => ?_, fun _ h => ?_⟩
  · rw [h]
  · rw [h]
def ent_large : Ent := ent1 fun s => .bool (largeS s)
theorem ent_large_ok : EntOk Tryd.prog 6 ent_large := ent1_of _ _ fun s h => large_pure s h
end Go.Proofs.YtfleadelfklenaaDoor
end
section
namespace Go.Proofs.YtfleadelfklenaaDoor
open Go.VD
set_option linter.unusedVariables false
set_option linter.unusedSimpArgs false
set_option maxRecDepth 100000
def btw (n lo hi : Int) : Bool := decide (lo ≤ n) && decide (n ≤ hi)
def ohmB (z : Imp) : Bool := btw z.r 0 1000 && btw z.x 1 1000
def srcB (emf : Int) (z1 z0 : Imp) : Bool := btw emf 1 1000000 && (ohmB z1 && ohmB z0)
theorem rbtw_pure (n lo hi : Int) : PureJ Tryd.prog 45 [.v (.int .i64 n), .v (.int .i64 lo), .v (.int .i64 hi)] (.v (.bool (btw n lo hi))) := by
  refine pureJ_of_vcx (call := noCalls) (lp := fun _ => none) (N := 10) T_ok mixed noCalls_ok Tryd.func45 rfl (by decide) (by kernel_rfl) (by kernel_rfl) (LpAll.none _) (by first | trivial | (simp only [NamelessL, Nameless, and_self, and_true, true_and]; done) | (simp [NamelessL, Nameless, u32s_nameless, namelessL_ints]; done)) (by first | trivial | (simp only [NamelessL, Nameless, and_self, and_true, true_and]; done) | (simp [NamelessL, Nameless, u32s_nameless, namelessL_ints]; done)) ?_
  refine of_eq (B := letI z0 := (D.v (Value.bool (btw n lo hi))); (True ∧ (True ∧ (True ∧ (True ∧ (True ∧ (pcond (Decidable.decide (lo ≤ n)) (True ∧ (True ∧ (True ∧ (True ∧ (True ∧ (True ∧ (True ∧ ((D.v (Value.bool (Decidable.decide (n ≤ hi)))) = z0)))))))) (True ∧ (True ∧ (True ∧ (True ∧ ((D.v (Value.bool Bool.false)) = z0)))))))))))) (by kernel_rfl) ?_
  simp only [true_and, and_true, and_self, IsInt_lit, IsBool_lit, IsStr_lit, IsSl_lit, cellN_lit, cellL_lit, Bool.not_eq_true', Bool.not_eq_false', Bool.not_true, Bool.not_false, Int.reduceLE, Int.reduceLT, Int.reduceNeg, Nat.le_refl, Int.le_refl, Nat.reduceLT, Nat.reduceLeDiff, Nat.reduceEqDiff, D.v.injEq, D.tup.injEq, D.agg.injEq, D.ro.injEq, List.cons.injEq, Value.int.injEq, Value.bool.injEq, pcond_true, pcond_false, NamelessL, Nameless, Nat.reduceMul, Nat.reduceAdd, Nat.zero_add, Int.toNat_natCast]
  unfold btw
  exact pcond_intro (fun h => by rw [h]; rfl) (fun h => by rw [h]; rfl)
def ent_rbtw : Ent := fun ds => match ds with
  | [.v (.int .i64 n), .v (.int .i64 lo), .v (.int .i64 hi)] => some (.v (.bool (btw n lo hi)), True)
  | _ => none
theorem ent_rbtw_ok : EntOk Tryd.prog 45 ent_rbtw := by
  intro ds d c h hc; unfold ent_rbtw at h; split at h
  · obtain ⟨rfl, rfl⟩ := pair_inj h; exact rbtw_pure _ _ _
  · cases h
theorem rohm_pure (r x : Int) : PureJ Tryd.prog 19 [.agg [.v (.int .i64 r), .v (.int .i64 x)]] (.v (.bool (ohmB ⟨r, x⟩))) := by
  refine pureJ_of_vcx (call := (addPure 45 ent_rbtw noCalls)) (lp := fun _ => none) (N := 10) T_ok mixed (addPure_ok ent_rbtw_ok noCalls_ok) Tryd.func19 rfl (by decide) (by kernel_rfl) (by kernel_rfl) (LpAll.none _) (by first | trivial | (simp only [NamelessL, Nameless, and_self, and_true, true_and]; done) | (simp [NamelessL, Nameless, u32s_nameless, namelessL_ints]; done)) (by first | trivial | (simp only [NamelessL, Nameless, and_self, and_true, true_and]; done) | (simp [NamelessL, Nameless, u32s_nameless, namelessL_ints]; done)) ?_
  refine of_eq (B := letI z0 := (D.v (Value.bool (ohmB (Imp.mk r x)))); (True ∧ (True ∧ (True ∧ ((((0 : Nat) < (2 : Nat)) ∧ (IsInt IntKind.i64 (D.v (Value.int IntKind.i64 r)))) ∧ (True ∧ (True ∧ (pcond (btw r (0 : Int) (1000 : Int)) (True ∧ ((((1 : Nat) < (2 : Nat)) ∧ (IsInt IntKind.i64 (D.v (Value.int IntKind.i64 x)))) ∧ (True ∧ (True ∧ (True ∧ (True ∧ (True ∧ ((D.v (Value.bool (btw x (1 : Int) (1000 : Int)))) = z0)))))))) (True ∧ (True ∧ (True ∧ (True ∧ ((D.v (Value.bool Bool.false)) = z0))))))))))))) (by kernel_rfl) ?_
  simp only [true_and, and_true, and_self, IsInt_lit, IsBool_lit, IsStr_lit, IsSl_lit, cellN_lit, cellL_lit, Bool.not_eq_true', Bool.not_eq_false', Bool.not_true, Bool.not_false, Int.reduceLE, Int.reduceLT, Int.reduceNeg, Nat.le_refl, Int.le_refl, Nat.reduceLT, Nat.reduceLeDiff, Nat.reduceEqDiff, D.v.injEq, D.tup.injEq, D.agg.injEq, D.ro.injEq, List.cons.injEq, Value.int.injEq, Value.bool.injEq, pcond_true, pcond_false, NamelessL, Nameless, Nat.reduceMul, Nat.reduceAdd, Nat.zero_add, Int.toNat_natCast]
  unfold ohmB
  exact pcond_intro (fun h => by rw [h]; rfl) (fun h => by rw [h]; rfl)
def ent_rohm : Ent := fun ds => match ds with
  | [.agg [.v (.int .i64 r), .v (.int .i64 x)]] => some (.v (.bool (ohmB ⟨r, x⟩)), True)
  | _ => none
theorem ent_rohm_ok : EntOk Tryd.prog 19 ent_rohm := by
  intro ds d c h hc; unfold ent_rohm at h; split at h
  · obtain ⟨rfl, rfl⟩ := pair_inj h; exact rohm_pure _ _
  · cases h
theorem rsrc_pure (n : ByteArray) (emf r1 x1 r0 x0 : Int) : PureJ Tryd.prog 20 [.agg [.v (.string n), .v (.int .i64 emf), .v (.int .i64 r1), .v (.int .i64 x1), .v (.int .i64 r0), .v (.int .i64 x0)]] (.v (.bool (srcB emf ⟨r1, x1⟩ ⟨r0, x0⟩))) := by
  refine pureJ_of_vcx (call := (addPure 45 ent_rbtw (addPure 19 ent_rohm noCalls))) (lp := fun _ => none) (N := 10) T_ok mixed (addPure_ok ent_rbtw_ok (addPure_ok ent_rohm_ok noCalls_ok)) Tryd.func20 rfl (by decide) (by kernel_rfl) (by kernel_rfl) (LpAll.none _) (by first | trivial | (simp only [NamelessL, Nameless, and_self, and_true, true_and]; done) | (simp [NamelessL, Nameless, u32s_nameless, namelessL_ints]; done)) (by first | trivial | (simp only [NamelessL, Nameless, and_self, and_true, true_and]; done) | (simp [NamelessL, Nameless, u32s_nameless, namelessL_ints]; done)) ?_
  refine of_eq (B := letI z1 := (D.v (Value.bool (srcB emf (Imp.mk r1 x1) (Imp.mk r0 x0)))); letI z0 := (True ∧ (True ∧ (True ∧ (True ∧ ((D.v (Value.bool Bool.false)) = z1))))); (True ∧ (True ∧ (True ∧ ((((1 : Nat) < (6 : Nat)) ∧ (IsInt IntKind.i64 (D.v (Value.int IntKind.i64 emf)))) ∧ (True ∧ (True ∧ (pcond (btw emf (1 : Int) (1000000 : Int)) (True ∧ (((4 : Nat) ≤ (6 : Nat)) ∧ (True ∧ (True ∧ (True ∧ (pcond (ohmB (Imp.mk r1 x1)) (True ∧ (((6 : Nat) ≤ (6 : Nat)) ∧ (True ∧ (True ∧ (True ∧ (True ∧ (True ∧ ((D.v (Value.bool (ohmB (Imp.mk r0 x0)))) = z1)))))))) z0)))))) (True ∧ (True ∧ z0)))))))))) (by kernel_rfl) ?_
  simp only [true_and, and_true, and_self, IsInt_lit, IsBool_lit, IsStr_lit, IsSl_lit, cellN_lit, cellL_lit, Bool.not_eq_true', Bool.not_eq_false', Bool.not_true, Bool.not_false, Int.reduceLE, Int.reduceLT, Int.reduceNeg, Nat.le_refl, Int.le_refl, Nat.reduceLT, Nat.reduceLeDiff, Nat.reduceEqDiff, D.v.injEq, D.tup.injEq, D.agg.injEq, D.ro.injEq, List.cons.injEq, Value.int.injEq, Value.bool.injEq, pcond_true, pcond_false, NamelessL, Nameless, Nat.reduceMul, Nat.reduceAdd, Nat.zero_add, Int.toNat_natCast]
  unfold srcB
  exact pcond_intro (fun h => by rw [h]; exact pcond_intro (fun h => by rw [h]; rfl) (fun h => by rw [h]; rfl)) (fun h => by rw [h]; rfl)
def ent_rsrc : Ent := fun ds => match ds with
  | [.agg [.v (.string n), .v (.int .i64 emf), .v (.int .i64 r1), .v (.int .i64 x1), .v (.int .i64 r0), .v (.int .i64 x0)]] => some (.v (.bool (srcB emf ⟨r1, x1⟩ ⟨r0, x0⟩)), True)
  | _ => none
theorem ent_rsrc_ok : EntOk Tryd.prog 20 ent_rsrc := by
  intro ds d c h hc; unfold ent_rsrc at h; split at h
  · obtain ⟨rfl, rfl⟩ := pair_inj h; exact rsrc_pure _ _ _ _ _ _
  · cases h
def objE (nl ns : Nat) (kind of : Int) : Int :=
  bif kind == 1 then (bif btw of 0 ((nl : Int) - 1) then 0 else 9) else
  bif kind == 2 then (bif btw of 0 ((ns : Int) - 1) then 0 else 9) else
  bif kind == 3 then (bif of == 0 then 0 else 9) else 10
theorem btw_lt (n : Int) (k : Nat) : btw n 0 ((k : Int) - 1) = (!decide (n < 0) && !decide ((k : Int) ≤ n)) := by
  unfold btw; rw [Bool.eq_iff_iff]; simp; omega
theorem robj_pure (s : Stn) (b : Bay) (hpre : okStn s) : PureJ Tryd.prog 46 [.agg (d_stnL s), .agg (d_bayL b)] (.v (.int .i64 (objE s.li.length s.so.length b.kind b.of))) := by
  refine pureJ_of_vcx (call := noCalls) (lp := fun _ => none) (N := 10) T_ok mixed noCalls_ok Tryd.func46 rfl (by decide) (by kernel_rfl) (by kernel_rfl) (LpAll.none _) (by first | exact ⟨stnD_nl s, bayD_nl b, trivial⟩ | trivial) (by first | exact ⟨stnD_nl s, bayD_nl b, trivial⟩ | trivial) ?_
  refine of_eq (B := letI z5 := (List.length (Stn.li s)); letI z6 := (List.length (Stn.so s)); letI z0 := (D.v (Value.int IntKind.i64 (objE z5 z6 (Bay.kind b) (Bay.of b)))); letI z1 := (((2 : Nat) < (12 : Nat)) ∧ (IsInt IntKind.i64 (D.v (Value.int IntKind.i64 (Bay.of b))))); letI z2 := (True ∧ (True ∧ (True ∧ ((D.v (Value.int IntKind.i64 (9 : Int))) = z0)))); letI z3 := (True ∧ (True ∧ (True ∧ ((D.v (Value.int IntKind.i64 (0 : Int))) = z0)))); letI z4 := (Decidable.decide ((Bay.of b) < (0 : Int))); (True ∧ (True ∧ (True ∧ (True ∧ ((((1 : Nat) < (12 : Nat)) ∧ (IsInt IntKind.i64 (D.v (Value.int IntKind.i64 (Bay.kind b))))) ∧ (True ∧ (True ∧ (pcond ((Bay.kind b) == (1 : Int)) (True ∧ (z1 ∧ (True ∧ (True ∧ (pcond z4 (True ∧ z2) (True ∧ (z1 ∧ (True ∧ (((2 : Nat) < (5 : Nat)) ∧ (True ∧ (True ∧ (True ∧ (pcond (Decidable.decide (((z5 : Nat) : Int) ≤ (Bay.of b))) z2 z3))))))))))))) (True ∧ (True ∧ (pcond ((Bay.kind b) == (2 : Int)) (True ∧ (z1 ∧ (True ∧ (True ∧ (pcond z4 (True ∧ z2) (True ∧ (z1 ∧ (True ∧ (((3 : Nat) < (5 : Nat)) ∧ (True ∧ (True ∧ (True ∧ (pcond (Decidable.decide (((z6 : Nat) : Int) ≤ (Bay.of b))) z2 z3))))))))))))) (True ∧ (True ∧ (pcond ((Bay.kind b) == (3 : Int)) (True ∧ (z1 ∧ (True ∧ (pcond ((Bay.of b) != (0 : Int)) z2 z3)))) (True ∧ (True ∧ (True ∧ ((D.v (Value.int IntKind.i64 (10 : Int))) = z0))))))))))))))))))) (by kernel_rfl) ?_
  simp only [true_and, and_true, and_self, IsInt_lit, IsBool_lit, IsStr_lit, IsSl_lit, cellN_lit, cellL_lit, Bool.not_eq_true', Bool.not_eq_false', Bool.not_true, Bool.not_false, Int.reduceLE, Int.reduceLT, Int.reduceNeg, Nat.le_refl, Int.le_refl, Nat.reduceLT, Nat.reduceLeDiff, Nat.reduceEqDiff, D.v.injEq, D.tup.injEq, D.agg.injEq, D.ro.injEq, List.cons.injEq, Value.int.injEq, Value.bool.injEq, pcond_true, pcond_false, NamelessL, Nameless, Nat.reduceMul, Nat.reduceAdd, Nat.zero_add, Int.toNat_natCast]
  unfold objE; rw [btw_lt, btw_lt]
  refine pcond_intro (fun h => ?_) (fun h => ?_)
  · rw [h, cond_true]
    exact pcond_intro (fun h1 => by rw [h1]; rfl) (fun h1 => pcond_intro (fun h2 => by rw [h1, h2]; rfl) (fun h2 => by rw [h1, h2]; rfl))
  · rw [h, cond_false]
    refine pcond_intro (fun h => ?_) (fun h => ?_)
    · rw [h, cond_true]
      exact pcond_intro (fun h1 => by rw [h1]; rfl) (fun h1 => pcond_intro (fun h2 => by rw [h1, h2]; rfl) (fun h2 => by rw [h1, h2]; rfl))
    · rw [h, cond_false]
      refine pcond_intro (fun h => ?_) (fun h => by rw [h]; rfl)
      rw [h, cond_true]
      exact pcond_intro (fun h1 => by rw [bne_iff_ne] at h1; rw [beq_false_of_ne h1]; rfl) (fun h1 => by rw [bne_eq_false_iff_eq] at h1; rw [h1]; rfl)
def ent_robj : Ent := fun ds => match ds with
  | [.agg [.v (.string n), .ro nb xb, .ro nl xl, .ro ns xs, .ro ny xy],
     .agg [.v (.string bn), .v (.int .i64 k), .v (.int .i64 o), .v (.int .i64 e), .v (.int .i64 r), .v (.int .i64 x), .ro m ls, .v (.bool cl), .v (.int .i64 ct), .v (.int .i64 vt), .v (.int .i64 sa), .v (.int .i64 tr)]] =>
    some (.v (.int .i64 (objE nl ns k o)), StnOk ⟨n, unBus xb, unLin xl, unSrc xs, unBay xy⟩ nb nl ns ny xb xl xs xy ∧ LnkOk m ls)
  | _ => none
theorem ent_robj_ok : EntOk Tryd.prog 46 ent_robj := by
  intro ds d c hd hc; unfold ent_robj at hd; split at hd
  · rename_i n nb xb nl xl ns xs ny xy bn k o e r x m ls cl ct vt sa tr
    obtain ⟨rfl, rfl⟩ := pair_inj hd
    obtain ⟨⟨⟨⟨⟨a1, a2⟩, -⟩, ⟨⟨b1, b2⟩, -⟩, ⟨⟨c1, c2⟩, -⟩, ⟨⟨d1, d2⟩, -⟩⟩, ho⟩, ⟨e1, e2⟩, -⟩ := hc
    generalize unBus xb = u1 at *
    generalize unLin xl = u2 at *
    generalize unSrc xs = u3 at *
    generalize unBay xy = u4 at *
    generalize unLnk ls = u5 at *
    subst a1; subst a2; subst b1; subst b2; subst c1; subst c2; subst d1; subst d2; subst e1; subst e2
    exact robj_pure ⟨n, u1, u2, u3, u4⟩ ⟨bn, k, o, e, ⟨r, x⟩, u5, cl, ct, vt, sa, tr⟩ ho
  · cases hd
def rngB (kind end_ : Int) (z : Imp) (ct vt sat tr : Int) : Bool :=
  (bif kind == 1 then btw end_ 0 1 else end_ == 0) && ((bif kind == 3 then ohmB z else (z.r == 0 && z.x == 0)) && (btw ct 1 100 && ((bif kind == 3 then vt == 0 else btw vt 1 10000) && (btw sat 0 16383 && btw tr 1 6))))
theorem rrng_pure (b : Bay) : PureJ Tryd.prog 47 [.agg (d_bayL b)] (.v (.bool (rngB b.kind b.end_ b.z b.ct b.vt b.sat b.tr))) := by
  refine pureJ_of_vcx (call := (addPure 45 ent_rbtw (addPure 19 ent_rohm noCalls))) (lp := fun _ => none) (N := 10) T_ok mixed (addPure_ok ent_rbtw_ok (addPure_ok ent_rohm_ok noCalls_ok)) Tryd.func47 rfl (by decide) (by kernel_rfl) (by kernel_rfl) (LpAll.none _) (by first | exact ⟨bayD_nl b, trivial⟩ | trivial) (by first | exact ⟨bayD_nl b, trivial⟩ | trivial) ?_
  refine of_eq (B := letI z13 := ((Bay.kind b) == (3 : Int)); letI z19 := ((6 : Nat) ≤ (12 : Nat)); letI z20 := ((0 : Nat) < (2 : Nat)); letI z16 := (Imp.r (Bay.z b)); letI z14 := (IsInt IntKind.i64 (D.v (Value.int IntKind.i64 (0 : Int)))); letI z21 := ((1 : Nat) < (2 : Nat)); letI z17 := (Imp.x (Bay.z b)); letI z9 := (D.v (Value.bool (rngB (Bay.kind b) (Bay.end_ b) (Bay.z b) (Bay.ct b) (Bay.vt b) (Bay.sat b) (Bay.tr b)))); letI z3 := (True ∧ (True ∧ (True ∧ ((D.v (Value.bool Bool.false)) = z9)))); letI z7 := (([] : List Value) = ([] : List Value)); letI z15 := (z7 ∧ (z7 ∧ (z7 ∧ (True ∧ z3)))); letI z2 := (z7 ∧ z15); letI z12 := (((9 : Nat) < (12 : Nat)) ∧ (IsInt IntKind.i64 (D.v (Value.int IntKind.i64 (Bay.vt b))))); letI z6 := (True ∧ ((((10 : Nat) < (12 : Nat)) ∧ (IsInt IntKind.i64 (D.v (Value.int IntKind.i64 (Bay.sat b))))) ∧ (True ∧ (True ∧ (pcond (btw (Bay.sat b) (0 : Int) (16383 : Int)) (True ∧ ((((11 : Nat) < (12 : Nat)) ∧ (IsInt IntKind.i64 (D.v (Value.int IntKind.i64 (Bay.tr b))))) ∧ (True ∧ (True ∧ (True ∧ (True ∧ (True ∧ ((D.v (Value.bool (btw (Bay.tr b) (1 : Int) (6 : Int)))) = z9)))))))) (True ∧ z3)))))); letI z1 := (True ∧ (True ∧ (True ∧ (pcond (!z13) (True ∧ (z12 ∧ (True ∧ (True ∧ (True ∧ (True ∧ (pcond (!(btw (Bay.vt b) (1 : Int) (10000 : Int))) z3 z6))))))) (True ∧ (True ∧ z6)))))); letI z5 := (True ∧ ((((8 : Nat) < (12 : Nat)) ∧ (IsInt IntKind.i64 (D.v (Value.int IntKind.i64 (Bay.ct b))))) ∧ (True ∧ (True ∧ (True ∧ (pcond (!(btw (Bay.ct b) (1 : Int) (100 : Int))) (z7 ∧ (z7 ∧ (z7 ∧ (True ∧ (True ∧ z2))))) (True ∧ (True ∧ (pcond z13 (True ∧ (z12 ∧ (True ∧ (True ∧ (True ∧ (True ∧ (pcond ((Bay.vt b) != (0 : Int)) z2 z1))))))) (True ∧ (True ∧ (True ∧ z1)))))))))))); letI z0 := (True ∧ (True ∧ (True ∧ (pcond (!z13) (True ∧ (z19 ∧ (True ∧ ((((z20 ∧ (IsInt IntKind.i64 (D.v (Value.int IntKind.i64 z16)))) ∧ (z20 ∧ z14)) ∧ (True ∧ (((z21 ∧ (IsInt IntKind.i64 (D.v (Value.int IntKind.i64 z17)))) ∧ (z21 ∧ z14)) ∧ (True ∧ True)))) ∧ (True ∧ (True ∧ (pcond (!((z16 == (0 : Int)) && ((z17 == (0 : Int)) && Bool.true))) z3 z5))))))) (True ∧ (True ∧ z5)))))); letI z18 := ((Bay.kind b) == (1 : Int)); letI z11 := (((3 : Nat) < (12 : Nat)) ∧ (IsInt IntKind.i64 (D.v (Value.int IntKind.i64 (Bay.end_ b))))); letI z8 := (True ∧ (True ∧ (pcond z13 (True ∧ (z19 ∧ (True ∧ (True ∧ (True ∧ (True ∧ (pcond (!(ohmB (Imp.mk z16 z17))) z2 z0))))))) (True ∧ (True ∧ z0))))); letI z4 := (True ∧ (True ∧ (True ∧ (pcond (!z18) (True ∧ (z11 ∧ (True ∧ (True ∧ (True ∧ (pcond ((Bay.end_ b) != (0 : Int)) z3 z8)))))) (True ∧ (True ∧ z8)))))); letI z10 := (((1 : Nat) < (12 : Nat)) ∧ (IsInt IntKind.i64 (D.v (Value.int IntKind.i64 (Bay.kind b))))); (True ∧ (True ∧ (True ∧ (z10 ∧ (True ∧ (True ∧ (z10 ∧ (True ∧ (True ∧ (True ∧ ((Bool.true = Bool.true) ∧ (True ∧ (True ∧ (pcond z18 (True ∧ (z11 ∧ (True ∧ (True ∧ (True ∧ (True ∧ (pcond (!(btw (Bay.end_ b) (0 : Int) (1 : Int))) z15 z4))))))) (True ∧ (True ∧ z4))))))))))))))))) (by kernel_rfl) ?_
  simp only [true_and, and_true, and_self, IsInt_lit, IsBool_lit, IsStr_lit, IsSl_lit, cellN_lit, cellL_lit, Bool.not_eq_true', Bool.not_eq_false', Bool.not_true, Bool.not_false, Int.reduceLE, Int.reduceLT, Int.reduceNeg, Nat.le_refl, Int.le_refl, Nat.reduceLT, Nat.reduceLeDiff, Nat.reduceEqDiff, D.v.injEq, D.tup.injEq, D.agg.injEq, D.ro.injEq, List.cons.injEq, Value.int.injEq, Value.bool.injEq, pcond_true, pcond_false, NamelessL, Nameless, Nat.reduceMul, Nat.reduceAdd, Nat.zero_add, Int.toNat_natCast]
  have eo : ohmB ⟨b.z.r, b.z.x⟩ = ohmB b.z := rfl
  simp only [bne, Bool.and_true, eo]
  unfold rngB
  generalize (b.kind == 1) = k1
  generalize (b.kind == 3) = k3
  generalize btw b.end_ 0 1 = a1
  generalize (b.end_ == 0) = a2
  generalize ohmB b.z = a3
  generalize (b.z.r == 0 && b.z.x == 0) = a4
  generalize btw b.ct 1 100 = a5
  generalize (b.vt == 0) = a6
  generalize btw b.vt 1 10000 = a7
  generalize btw b.sat 0 16383 = a8
  generalize btw b.tr 1 6 = a9
  cases k1 <;> cases k3 <;> simp only [pcond_true, pcond_false, Bool.not_true, Bool.not_false, cond_true, cond_false]
  all_goals (cases a1 <;> cases a2 <;> simp only [pcond_true, pcond_false, Bool.not_true, Bool.not_false, Bool.false_and, Bool.true_and])
  all_goals (cases a3 <;> cases a4 <;> simp only [pcond_true, pcond_false, Bool.not_true, Bool.not_false, Bool.false_and, Bool.true_and])
  all_goals (cases a5 <;> cases a6 <;> simp only [pcond_true, pcond_false, Bool.not_true, Bool.not_false, Bool.false_and, Bool.true_and])
  all_goals (cases a7 <;> cases a8 <;> simp only [pcond_true, pcond_false, Bool.not_true, Bool.not_false, Bool.false_and, Bool.true_and])
def ent_rrng : Ent := fun ds => match ds with
  | [.agg [.v (.string bn), .v (.int .i64 k), .v (.int .i64 o), .v (.int .i64 e), .v (.int .i64 r), .v (.int .i64 x), .ro m ls, .v (.bool cl), .v (.int .i64 ct), .v (.int .i64 vt), .v (.int .i64 sa), .v (.int .i64 tr)]] =>
    some (.v (.bool (rngB k e ⟨r, x⟩ ct vt sa tr)), LnkOk m ls)
  | _ => none
theorem ent_rrng_ok : EntOk Tryd.prog 47 ent_rrng := by
  intro ds d c hd hc; unfold ent_rrng at hd; split at hd
  · rename_i bn k o e r x m ls cl ct vt sa tr
    obtain ⟨rfl, rfl⟩ := pair_inj hd
    obtain ⟨⟨e1, e2⟩, -⟩ := hc
    generalize unLnk ls = u5 at *
    subst e1; subst e2
    exact rrng_pure ⟨bn, k, o, e, ⟨r, x⟩, u5, cl, ct, vt, sa, tr⟩
  · cases hd
def hasN (l : List ByteArray) (s : ByteArray) : Bool := (List.range l.length).any fun i => sE (l.getD i default) s
def idxS (l : List ByteArray) (s : ByteArray) : Int := match (List.range l.length).find? (fun i => sE (l.getD i default) s) with
  | some i => (i : Int)
  | none => -1
theorem idxS_none {l : List ByteArray} {s : ByteArray} (h : ∀ i, i < l.length → sE (l.getD i default) s = false) : idxS l s = -1 := by
  unfold idxS; rw [List.find?_eq_none.2]
  intro i hi; rw [h i (List.mem_range.1 hi)]; simp
theorem idxS_some {l : List ByteArray} {s : ByteArray} {i : Nat} (hi : i < l.length) (h : ∀ j, j < i → sE (l.getD j default) s = false) (he : sE (l.getD i default) s = true) : idxS l s = (i : Int) := by
  unfold idxS
  have : (List.range l.length).find? (fun i => sE (l.getD i default) s) = some i := by
    rw [List.find?_range_eq_some]
    exact ⟨he, List.mem_range.2 hi, fun j hj => by rw [h j hj]; rfl⟩
  rw [this]
theorem idxS_nonneg (l : List ByteArray) (s : ByteArray) : decide (0 ≤ idxS l s) = hasN l s := by
  unfold idxS hasN
  rw [Bool.eq_iff_iff, List.any_eq_true]
  cases h : (List.range l.length).find? (fun i => sE (l.getD i default) s) with
  | none =>
    rw [List.find?_eq_none] at h
    simp only [decide_eq_true_eq]
    refine ⟨fun h => by omega, fun ⟨x, hx, hs⟩ => absurd hs (h x hx)⟩
  | some i =>
    simp only [decide_eq_true_eq]
    refine ⟨fun _ => ⟨i, List.mem_of_find?_eq_some h, by simpa using List.find?_some h⟩, fun _ => by omega⟩
def lp_ridxLoop (l : List ByteArray) (s : ByteArray) : LoopO := loopRule2 (α := Nat) (β := Unit) (γ := Nat) [] (fun i => i ≤ l.length ∧ ∀ j, j < i → sE (l.getD j default) s = false) (fun i => [(0, .ro l.length (busesD l)), (1, d_s s), (5, d_i (i : Int))]) (fun i => []) (0) (fun _ => idxS l s = -1) (fun _ => (.exit 0, [], [])) (fun i => idxS l s = (i : Int)) (fun i => (.ret, [(4, d_i (i : Int))], []))
theorem ridxLoop_rule (l : List ByteArray) (s : ByteArray) (hpre : l.length ≤ maxLen) : LRuleP Tryd.prog Tryd.f44.ntmps (loopAt ((Tryd.f44.body).getD .skip) 2) (lp_ridxLoop l s) := by
  refine lrule_of2 (α := Nat) (β := Unit) (γ := Nat) (call := noCalls) (lp := fun _ => none) (N := 10) T_ok mixed noCalls_ok (fun i => l.length - i) (by kernel_rfl) (LpAllP.none _) ?_
  intro x hJ
  refine of_eq (B := letI z0 := ([] : List (Option Blk)); letI z4 := (Exit.exit (0 : Nat)); letI z7 := ([] : List (Prod Nat D)); letI z1 := (Prod.mk z4 (Prod.mk z7 z0)); letI z2 := ((x : Nat) : Int); letI z3 := List.length l; letI z9 := ((Int.toNat z2) * (1 : Nat)); letI z5 := (List.getD (busesD l) z9 (Inhabited.default)); letI z6 := (List (Option Nat)); letI z8 := (Prod.mk (0 : Nat) (D.ro z3 (busesD l))); letI z10 := ((idxS l s) = (-(1 : Int))); (True ∧ (True ∧ (True ∧ (True ∧ (pcond (Decidable.decide (z2 < ((z3 : Nat) : Int))) (True ∧ (True ∧ ((((0 : Int) ≤ z2) ∧ (z2 < ((z3 : Nat) : Int))) ∧ (((z9 < (List.length (busesD l))) ∧ (IsStr z5)) ∧ (True ∧ (True ∧ (pcond ((ByteArray.toList (cellStr z5)) == (ByteArray.toList s)) (True ∧ (True ∧ ((∃ (r : Unit), (∃ (kp : z6), (z10 ∧ ((Exit.ret = z4) ∧ (viewAll kp z7 z0 (Prod.fst (Prod.snd ((fun (x_1 : Unit) => z1) r))) (Prod.snd (Prod.snd ((fun (x_1 : Unit) => z1) r)))))))) ∨ (∃ (r : Nat), (∃ (kp : z6), (((idxS l s) = ((r : Nat) : Int)) ∧ ((Exit.ret = Exit.ret) ∧ (viewAll kp [(Prod.mk (4 : Nat) (D.v (Value.int IntKind.i64 z2)))] z0 (Prod.fst (Prod.snd ((fun (i : Nat) => (Prod.mk Exit.ret (Prod.mk [(Prod.mk (4 : Nat) (d_i ((i : Nat) : Int)))] z0))) r))) (Prod.snd (Prod.snd ((fun (i : Nat) => (Prod.mk Exit.ret (Prod.mk [(Prod.mk (4 : Nat) (d_i ((i : Nat) : Int)))] z0))) r))))))))))) (True ∧ (True ∧ (True ∧ (∃ (y : Nat), (∃ (kp : z6), (((z3 - y) < (z3 - x)) ∧ (((y ≤ z3) ∧ (∀ (j : Nat), ((j < y) → ((sE (List.getD l j (Inhabited.default)) s) = Bool.false)))) ∧ (viewAll kp [z8, (Prod.mk (1 : Nat) (D.v (Value.string s))), (Prod.mk (5 : Nat) (D.v (Value.int IntKind.i64 (IntKind.wrap IntKind.i64 (z2 + (1 : Int))))))] z0 [z8, (Prod.mk (1 : Nat) (d_s s)), (Prod.mk (5 : Nat) (d_i ((y : Nat) : Int)))] z0))))))))))))))) ((∃ (r : Unit), (∃ (kp : z6), (z10 ∧ ((z4 = z4) ∧ (viewAll kp z7 z0 (Prod.fst (Prod.snd ((fun (x_1 : Unit) => z1) r))) (Prod.snd (Prod.snd ((fun (x_1 : Unit) => z1) r)))))))) ∨ (∃ (r : Nat), (∃ (kp : z6), (((idxS l s) = ((r : Nat) : Int)) ∧ ((z4 = Exit.ret) ∧ (viewAll kp z7 z0 (Prod.fst (Prod.snd ((fun (i : Nat) => (Prod.mk Exit.ret (Prod.mk [(Prod.mk (4 : Nat) (d_i ((i : Nat) : Int)))] z0))) r))) (Prod.snd (Prod.snd ((fun (i : Nat) => (Prod.mk Exit.ret (Prod.mk [(Prod.mk (4 : Nat) (d_i ((i : Nat) : Int)))] z0))) r))))))))))))))) (by kernel_rfl) ?_
  have hm : l.length ≤ 9223372036854775807 := hpre
  obtain ⟨hx, hall⟩ := hJ
  simp only [true_and, and_true, and_self, IsInt_lit, IsBool_lit, IsStr_lit, IsSl_lit, cellN_lit, cellL_lit, Bool.not_eq_true', Bool.not_eq_false', Bool.not_true, Bool.not_false, Int.reduceLE, Int.reduceLT, Int.reduceNeg, Nat.le_refl, Int.le_refl, Nat.reduceLT, Nat.reduceLeDiff, Nat.reduceEqDiff, D.v.injEq, D.tup.injEq, D.agg.injEq, D.ro.injEq, List.cons.injEq, Value.int.injEq, Value.bool.injEq, pcond_true, pcond_false, NamelessL, Nameless, Nat.reduceMul, Nat.reduceAdd, Nat.zero_add, Int.toNat_natCast]
  refine pcond_intro (fun h => ?_) (fun h => .inl ⟨(), [], ?_, ⟨rfl, rfl, trivial⟩⟩)
  · simp only [decide_eq_true_eq] at h
    have hxa : x < l.length := by omega
    have ga := busesD_get l x hxa
    have ha := busesD_length l
    simp only [Nat.mul_one, ga, cellStr_lit, IsStr_lit, wrap_succ hxa hm, true_and, and_true]
    have e1 : ∀ u v : ByteArray, (u.toList == v.toList) = sE u v := fun _ _ => rfl
    rw [e1]
    refine ⟨⟨by omega, by omega⟩, by omega, pcond_intro (fun h1 => .inr ⟨x, [], idxS_some hxa hall h1, ⟨rfl, rfl, ⟨trivial, rfl⟩, trivial⟩⟩) (fun h1 => ⟨x + 1, [], by omega, ⟨by omega, fun j hj => ?_⟩, ⟨rfl, rfl, ⟨trivial, rfl⟩, ⟨trivial, rfl⟩, ⟨trivial, rfl⟩, trivial⟩⟩)⟩
    rcases Nat.lt_or_ge j x with h2 | h2
    · exact hall j h2
    · rw [show j = x by omega]; exact h1
  · simp only [decide_eq_false_iff_not] at h
    exact idxS_none fun j hj => hall j (by omega)
theorem ridx_pure (l : List ByteArray) (s : ByteArray) (hpre : l.length ≤ maxLen) : PureJ Tryd.prog 44 [.ro l.length (busesD l), .v (.string s)] (.v (.int .i64 (idxS l s))) := by
  refine pureJ_of_vcp (call := noCalls) (lp := fun reg__ => bif Nat.beq reg__ 2 then some (lp_ridxLoop l s) else none) (N := 10) T_ok mixed noCalls_ok Tryd.func44 rfl (by decide) (by kernel_rfl) (by kernel_rfl) (of_eq (B := LRuleP Tryd.prog Tryd.f44.ntmps (loopAt ((Tryd.f44.body).getD .skip) 2) (lp_ridxLoop l s) ∧ True) (by kernel_rfl) ⟨ridxLoop_rule l s hpre, trivial⟩) (by first | exact ⟨busesD_nl l, trivial, trivial⟩ | trivial) (by first | exact ⟨busesD_nl l, trivial, trivial⟩ | trivial) ?_
  refine of_eq (B := letI z0 := (D.v (Value.int IntKind.i64 (idxS l s))); letI z1 := (D.v (Value.int IntKind.i64 (0 : Int))); letI z2 := (D.ro (List.length l) (busesD l)); letI z3 := ([] : List (Option Blk)); letI z4 := (D.v (Value.string s)); (True ∧ (True ∧ ((((0 : Nat) ≤ (List.length l)) ∧ (∀ (j : Nat), ((j < (0 : Nat)) → ((sE (List.getD l j (Inhabited.default)) s) = Bool.false)))) ∧ (((Bool.true = Bool.true) ∧ ((z3 = z3) ∧ ((True ∧ (z2 = z2)) ∧ ((True ∧ (z4 = z4)) ∧ ((True ∧ (z1 = z1)) ∧ True))))) ∧ ((Unit → (((idxS l s) = (-(1 : Int))) → (True ∧ (True ∧ (True ∧ ((D.v (Value.int IntKind.i64 (-(1 : Int)))) = z0)))))) ∧ (∀ (r : Nat), (((idxS l s) = ((r : Nat) : Int)) → (True ∧ (True ∧ ((D.v (Value.int IntKind.i64 ((r : Nat) : Int))) = z0))))))))))) (by kernel_rfl) ?_
  simp only [true_and, and_true, and_self, IsInt_lit, IsBool_lit, IsStr_lit, IsSl_lit, cellN_lit, cellL_lit, Bool.not_eq_true', Bool.not_eq_false', Bool.not_true, Bool.not_false, Int.reduceLE, Int.reduceLT, Int.reduceNeg, Nat.le_refl, Int.le_refl, Nat.reduceLT, Nat.reduceLeDiff, Nat.reduceEqDiff, D.v.injEq, D.tup.injEq, D.agg.injEq, D.ro.injEq, List.cons.injEq, Value.int.injEq, Value.bool.injEq, pcond_true, pcond_false, NamelessL, Nameless, Nat.reduceMul, Nat.reduceAdd, Nat.zero_add, Int.toNat_natCast]
  exact ⟨⟨Nat.zero_le _, fun j h => absurd h (Nat.not_lt_zero _)⟩, fun _ h => h.symm, fun _ h => h.symm⟩
def ent_ridx : Ent := fun ds => match ds with
  | [.ro n xs, .v (.string s)] => some (.v (.int .i64 (idxS (unBus xs) s)), BusOk n xs)
  | _ => none
theorem ent_ridx_ok : EntOk Tryd.prog 44 ent_ridx := by
  intro ds d c hd hc; unfold ent_ridx at hd; split at hd
  · rename_i n xs s
    obtain ⟨rfl, rfl⟩ := pair_inj hd
    obtain ⟨⟨h1, h2⟩, h3⟩ := hc
    generalize unBus xs = a at *
    subst h1; subst h2
    exact ridx_pure a s h3
  · cases hd
def nmdS (l : List ByteArray) (s : ByteArray) : Int := bif nameS s then (bif hasN l s then 8 else 0) else 7
theorem rnamed_pure (l : List ByteArray) (s : ByteArray) (hpre : l.length ≤ maxLen ∧ s.size ≤ maxLen) : PureJ Tryd.prog 17 [.ro l.length (busesD l), .v (.string s)] (.v (.int .i64 (nmdS l s))) := by
  refine pureJ_of_vcx (call := (addPure 16 ent_rname (addPure 44 ent_ridx noCalls))) (lp := fun _ => none) (N := 10) T_ok mixed (addPure_ok ent_rname_ok (addPure_ok ent_ridx_ok noCalls_ok)) Tryd.func17 rfl (by decide) (by kernel_rfl) (by kernel_rfl) (LpAll.none _) (by first | exact ⟨busesD_nl l, trivial, trivial⟩ | trivial) (by first | exact ⟨busesD_nl l, trivial, trivial⟩ | trivial) ?_
  refine of_eq (B := letI z0 := (D.v (Value.int IntKind.i64 (nmdS l s))); (True ∧ (True ∧ (((ByteArray.size s) ≤ (9223372036854775807 : Nat)) ∧ (True ∧ (pcond (!(nameS s)) (True ∧ (True ∧ (True ∧ ((D.v (Value.int IntKind.i64 (7 : Int))) = z0)))) (True ∧ (True ∧ ((BusOk (List.length l) (busesD l)) ∧ (True ∧ (pcond (Decidable.decide ((0 : Int) ≤ (idxS (unBus (busesD l)) s))) (True ∧ (True ∧ (True ∧ ((D.v (Value.int IntKind.i64 (8 : Int))) = z0)))) (True ∧ (True ∧ (True ∧ ((D.v (Value.int IntKind.i64 (0 : Int))) = z0))))))))))))))) (by kernel_rfl) ?_
  simp only [true_and, and_true, and_self, IsInt_lit, IsBool_lit, IsStr_lit, IsSl_lit, cellN_lit, cellL_lit, Bool.not_eq_true', Bool.not_eq_false', Bool.not_true, Bool.not_false, Int.reduceLE, Int.reduceLT, Int.reduceNeg, Nat.le_refl, Int.le_refl, Nat.reduceLT, Nat.reduceLeDiff, Nat.reduceEqDiff, D.v.injEq, D.tup.injEq, D.agg.injEq, D.ro.injEq, List.cons.injEq, Value.int.injEq, Value.bool.injEq, pcond_true, pcond_false, NamelessL, Nameless, Nat.reduceMul, Nat.reduceAdd, Nat.zero_add, Int.toNat_natCast, BusOk_lit, unBus_D]
  refine ⟨hpre.2, ?_⟩
  rw [idxS_nonneg]
  unfold nmdS
  refine pcond_intro (fun h => by rw [Bool.not_eq_true'] at h; rw [h]; rfl) (fun h => ⟨hpre.1, ?_⟩)
  rw [Bool.not_eq_false'] at h; rw [h]
  exact pcond_intro (fun h => by rw [h]; rfl) (fun h => by rw [h]; rfl)
def ent_rnamed : Ent := fun ds => match ds with
  | [.ro n xs, .v (.string s)] => some (.v (.int .i64 (nmdS (unBus xs) s)), BusOk n xs ∧ s.size ≤ maxLen)
  | _ => none
theorem ent_rnamed_ok : EntOk Tryd.prog 17 ent_rnamed := by
  intro ds d c hd hc; unfold ent_rnamed at hd; split at hd
  · rename_i n xs s
    obtain ⟨rfl, rfl⟩ := pair_inj hd
    obtain ⟨⟨⟨h1, h2⟩, h3⟩, h4⟩ := hc
    generalize unBus xs = a at *
    subst h1; subst h2
    exact rnamed_pure a s ⟨h3, h4⟩
  · cases hd
end Go.Proofs.YtfleadelfklenaaDoor
end
