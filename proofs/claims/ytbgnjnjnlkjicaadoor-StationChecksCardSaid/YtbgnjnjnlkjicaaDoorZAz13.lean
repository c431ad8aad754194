import Derived.Test.YtbgnjnjnlkjicaaDoorZAz12
section
namespace Go.Proofs.YtbgnjnjnlkjicaaDoor
open Go.VD
set_option linter.unusedVariables false
set_option linter.unusedSimpArgs false
set_option maxRecDepth 100000
def allI {α : Type} [Inhabited α] (p : α → α → Bool) (a b : List α) : Bool := (List.range a.length).all fun i => p (a.getD i default) (b.getD i default)
def lEq {α : Type} [Inhabited α] (p : α → α → Bool) (a b : List α) : Bool := decide (a.length = b.length) && allI p a b
theorem allI_of {α : Type} [Inhabited α] {p : α → α → Bool} {a b : List α} (h : ∀ i, i < a.length → p (a.getD i default) (b.getD i default) = true) : allI p a b = true := by
  unfold allI; rw [List.all_eq_true]; intro i hi; exact h i (List.mem_range.1 hi)
theorem allI_not {α : Type} [Inhabited α] {p : α → α → Bool} {a b : List α} {i : Nat} (hi : i < a.length) (h : p (a.getD i default) (b.getD i default) = false) : allI p a b = false := by
  unfold allI
  rw [Bool.eq_false_iff]
  intro hall
  rw [List.all_eq_true] at hall
  have := hall i (List.mem_range.2 hi)
  rw [h] at this; cases this
theorem allI_self {α : Type} [Inhabited α] {p : α → α → Bool} (hp : ∀ x, p x x = true) (a : List α) : lEq p a a = true := by
  unfold lEq; rw [allI_of fun i _ => hp _]; simp
def sE (a b : ByteArray) : Bool := a.toList == b.toList
theorem beq_sE (a b : ByteArray) : (a == b) = sE a b := by
  unfold sE
  rw [Bool.eq_iff_iff, bytes_eq_iff, beq_iff_eq, ByteArray.toList_eq, ByteArray.toList_eq]
  cases a; cases b
  simp [Array.toList_inj]
def impE (a b : Imp) : Bool := (a.r == b.r) && (a.x == b.x)
def linE (a b : Lin) : Bool := sE a.n b.n && (impE a.z1 b.z1 && impE a.z0 b.z0)
def srcE (a b : Src) : Bool := sE a.n b.n && ((a.emf == b.emf) && (impE a.z1 b.z1 && impE a.z0 b.z0))
def lnkE (a b : Lnk) : Bool := (a.bus == b.bus) && (a.pos == b.pos)
def bayE (a b : Bay) : Bool := sE a.n b.n && ((a.kind == b.kind) && ((a.of == b.of) && ((a.end_ == b.end_) && (impE a.z b.z && (lEq lnkE a.ls b.ls && ((a.cl == b.cl) && ((a.ct == b.ct) && ((a.vt == b.vt) && ((a.sat == b.sat) && (a.tr == b.tr))))))))))
def stnE (a b : Stn) : Bool := sE a.n b.n && (lEq sE a.bu b.bu && (lEq linE a.li b.li && (lEq srcE a.so b.so && lEq bayE a.ba b.ba)))
theorem sE_self (a : ByteArray) : sE a a = true := by unfold sE; exact beq_self_eq_true _
theorem stnE_self (s : Stn) : stnE s s = true := by
  unfold stnE
  rw [sE_self, allI_self sE_self, allI_self (fun x => by simp [linE, impE, sE_self]), allI_self (fun x => by simp [srcE, impE, sE_self]), allI_self (fun x => by
    unfold bayE
    rw [sE_self, allI_self (fun x => by simp [lnkE])]
    simp [impE])]
  rfl
theorem wrap_succ {x n : Nat} (h : x < n) (hn : n ≤ 9223372036854775807) : IntKind.i64.wrap ((x : Int) + 1) = ((x + 1 : Nat) : Int) := by rw [wrap_i64_of (by omega) (by omega)]; omega
def lp_eqSLoop (a b : List ByteArray) : LoopO := loopRule2 (α := Nat) (β := Unit) (γ := Unit) [] (fun i => a.length = b.length ∧ i ≤ a.length ∧ ∀ j, j < i → sE (a.getD j default) (b.getD j default) = true) (fun i => [(0, .ro a.length (busesD a)), (1, .ro b.length (busesD b)), (12, d_i (a.length : Int)), (13, d_i (i : Int))]) (fun i => []) (0) (fun _ => allI sE a b = true) (fun _ => (.exit 0, [(0, .ro a.length (busesD a))], [])) (fun _ => allI sE a b = false) (fun _ => (.ret, [(4, .v (.bool false))], []))
theorem eqSLoop_rule (a b : List ByteArray) (hpre : a.length ≤ maxLen) : LRuleP Tryd.prog Tryd.f35.ntmps (loopAt ((Tryd.f35.body).getD .skip) 4) (lp_eqSLoop a b) := by
  refine lrule_of2 (α := Nat) (β := Unit) (γ := Unit) (call := noCalls) (lp := fun _ => none) (N := 10) T_ok mixed noCalls_ok (fun i => a.length - i) (by kernel_rfl) (LpAllP.none _) ?_
  intro x hJ
  refine of_eq (B := letI z7 := (Exit.exit (0 : Nat)); letI z5 := List.length a; letI z3 := (Prod.mk (0 : Nat) (D.ro z5 (busesD a))); letI z4 := ([] : List (Option Blk)); letI z0 := (Prod.mk z7 (Prod.mk [z3] z4)); letI z10 := (Prod.mk (4 : Nat) (D.v (Value.bool Bool.false))); letI z1 := (Prod.mk Exit.ret (Prod.mk [z10] z4)); letI z6 := ((x : Nat) : Int); letI z2 := ((Int.toNat z6) * (1 : Nat)); letI z8 := (List (Option Nat)); letI z15 := List.length b; letI z9 := (Prod.mk (1 : Nat) (D.ro z15 (busesD b))); letI z11 := ((z5 : Nat) : Int); letI z12 := (List.getD (busesD a) z2 (Inhabited.default)); letI z13 := (List.getD (busesD b) z2 (Inhabited.default)); letI z14 := ((allI sE a b) = Bool.false); letI z16 := ((allI sE a b) = Bool.true); (True ∧ (pcond (Decidable.decide (z6 < z11)) (True ∧ (True ∧ (True ∧ (True ∧ ((((0 : Int) ≤ z6) ∧ (z6 < z11)) ∧ (((z2 < (List.length (busesD a))) ∧ (IsStr z12)) ∧ (True ∧ (True ∧ ((((0 : Int) ≤ z6) ∧ (z6 < ((z15 : Nat) : Int))) ∧ (((z2 < (List.length (busesD b))) ∧ (IsStr z13)) ∧ (True ∧ ((Bool.true = Bool.true) ∧ (pcond (!((ByteArray.toList (cellStr z12)) == (ByteArray.toList (cellStr z13)))) (True ∧ ((∃ (r : Unit), (∃ (kp : z8), (z16 ∧ ((Exit.ret = z7) ∧ (viewAll kp [z3] z4 (Prod.fst (Prod.snd ((fun (x_1 : Unit) => z0) r))) (Prod.snd (Prod.snd ((fun (x_1 : Unit) => z0) r)))))))) ∨ (∃ (r : Unit), (∃ (kp : z8), (z14 ∧ ((Exit.ret = Exit.ret) ∧ (viewAll kp [z10] z4 (Prod.fst (Prod.snd ((fun (x_1 : Unit) => z1) r))) (Prod.snd (Prod.snd ((fun (x_1 : Unit) => z1) r)))))))))) (True ∧ (True ∧ (∃ (y : Nat), (∃ (kp : z8), (((z5 - y) < (z5 - x)) ∧ (((z5 = z15) ∧ ((y ≤ z5) ∧ (∀ (j : Nat), ((j < y) → ((sE (List.getD a j (Inhabited.default)) (List.getD b j (Inhabited.default))) = Bool.true))))) ∧ (viewAll kp [z3, z9, (Prod.mk (12 : Nat) (D.v (Value.int IntKind.i64 z11))), (Prod.mk (13 : Nat) (D.v (Value.int IntKind.i64 (IntKind.wrap IntKind.i64 (z6 + (1 : Int))))))] z4 [z3, z9, (Prod.mk (12 : Nat) (d_i z11)), (Prod.mk (13 : Nat) (d_i ((y : Nat) : Int)))] z4)))))))))))))))))))) ((∃ (r : Unit), (∃ (kp : z8), (z16 ∧ ((z7 = z7) ∧ (viewAll kp [z3] z4 (Prod.fst (Prod.snd ((fun (x_1 : Unit) => z0) r))) (Prod.snd (Prod.snd ((fun (x_1 : Unit) => z0) r)))))))) ∨ (∃ (r : Unit), (∃ (kp : z8), (z14 ∧ ((z7 = Exit.ret) ∧ (viewAll kp ([] : List (Prod Nat D)) z4 (Prod.fst (Prod.snd ((fun (x_1 : Unit) => z1) r))) (Prod.snd (Prod.snd ((fun (x_1 : Unit) => z1) r)))))))))))) (by kernel_rfl) ?_
  have hm : a.length ≤ 9223372036854775807 := hpre
  obtain ⟨hl, hx, hall⟩ := hJ
  simp only [true_and, and_true, and_self, IsInt_lit, IsBool_lit, IsStr_lit, IsSl_lit, cellN_lit, cellL_lit, Bool.not_eq_true', Bool.not_eq_false', Bool.not_true, Bool.not_false, Int.reduceLE, Int.reduceLT, Int.reduceNeg, Nat.le_refl, Int.le_refl, Nat.reduceLT, Nat.reduceLeDiff, Nat.reduceEqDiff, D.v.injEq, D.tup.injEq, D.agg.injEq, D.ro.injEq, List.cons.injEq, Value.int.injEq, Value.bool.injEq, pcond_true, pcond_false, NamelessL, Nameless, Nat.reduceMul, Nat.reduceAdd, Nat.zero_add, Int.toNat_natCast]
  refine pcond_intro (fun h => ?_) (fun h => .inl ⟨(), [], ?_, ⟨rfl, rfl, ⟨trivial, rfl⟩, trivial⟩⟩)
  · simp only [decide_eq_true_eq] at h
    have hxa : x < a.length := by omega
    simp only [Nat.mul_one, busesD_get a x hxa, busesD_get b x (by omega), busesD_length, cellStr_lit, IsStr_lit, wrap_succ hxa hm]
    simp only [show ∀ u v : ByteArray, (u.toList == v.toList) = sE u v from fun _ _ => rfl]
    refine ⟨⟨by omega, by omega⟩, ⟨by omega, trivial⟩, ⟨by omega, by omega⟩, ⟨by omega, trivial⟩, pcond_intro (fun h1 => .inr ⟨(), [], allI_not hxa (by simpa using h1), ⟨rfl, rfl, ⟨trivial, rfl⟩, trivial⟩⟩) (fun h1 => ⟨x + 1, [], by omega, ⟨hl, by omega, fun j hj => ?_⟩, ⟨rfl, rfl, ⟨trivial, rfl⟩, ⟨trivial, rfl⟩, ⟨trivial, rfl⟩, ⟨trivial, rfl⟩, trivial⟩⟩)⟩
    rcases Nat.lt_or_ge j x with h2 | h2
    · exact hall j h2
    · rw [show j = x by omega]; simpa using h1
  · simp only [decide_eq_false_iff_not] at h
    exact allI_of fun j hj => hall j (by omega)
def lp_eqLLoop (a b : List Lin) : LoopO := loopRule2 (α := Nat) (β := Unit) (γ := Unit) [] (fun i => a.length = b.length ∧ i ≤ a.length ∧ ∀ j, j < i → linE (a.getD j default) (b.getD j default) = true) (fun i => [(0, .ro a.length (linesD a)), (1, .ro b.length (linesD b)), (12, d_i (a.length : Int)), (13, d_i (i : Int))]) (fun i => []) (0) (fun _ => allI linE a b = true) (fun _ => (.exit 0, [(0, .ro a.length (linesD a))], [])) (fun _ => allI linE a b = false) (fun _ => (.ret, [(4, .v (.bool false))], []))
theorem eqLLoop_rule (a b : List Lin) (hpre : a.length ≤ maxLen) : LRuleP Tryd.prog Tryd.f36.ntmps (loopAt ((Tryd.f36.body).getD .skip) 4) (lp_eqLLoop a b) := by
  refine lrule_of2 (α := Nat) (β := Unit) (γ := Unit) (call := noCalls) (lp := fun _ => none) (N := 10) T_ok mixed noCalls_ok (fun i => a.length - i) (by kernel_rfl) (LpAllP.none _) ?_
  intro x hJ
  refine of_eq (B := letI z12 := ((x : Nat) : Int); letI z2 := ((Int.toNat z12) * (5 : Nat)); letI z0 := (z2 + (1 : Nat)); letI z19 := (Exit.exit (0 : Nat)); letI z11 := List.length a; letI z5 := (Prod.mk (0 : Nat) (D.ro z11 (linesD a))); letI z6 := ([] : List (Option Blk)); letI z1 := (Prod.mk z19 (Prod.mk [z5] z6)); letI z25 := (Prod.mk (4 : Nat) (D.v (Value.bool Bool.false))); letI z3 := (Prod.mk Exit.ret (Prod.mk [z25] z6)); letI z27 := (z0 + (1 : Nat)); letI z4 := (z27 + (1 : Nat)); letI z7 := (List.getD (linesD a) z27 (Inhabited.default)); letI z8 := (List.getD (linesD a) (z4 + (1 : Nat)) (Inhabited.default)); letI z9 := (List.getD (linesD b) z27 (Inhabited.default)); letI z10 := (List.getD (linesD b) (z4 + (1 : Nat)) (Inhabited.default)); letI z13 := (List.getD (linesD a) z2 (Inhabited.default)); letI z14 := (List.getD (linesD a) z0 (Inhabited.default)); letI z15 := (List.getD (linesD a) z4 (Inhabited.default)); letI z16 := (List.getD (linesD b) z2 (Inhabited.default)); letI z17 := (List.getD (linesD b) z0 (Inhabited.default)); letI z18 := (List.getD (linesD b) z4 (Inhabited.default)); letI z20 := (List (Option Nat)); letI z21 := ((0 : Nat) < (2 : Nat)); letI z22 := ((1 : Nat) < (2 : Nat)); letI z28 := List.length b; letI z23 := (Prod.mk (1 : Nat) (D.ro z28 (linesD b))); letI z24 := ((z11 : Nat) : Int); letI z26 := allI linE a b; letI z29 := ((3 : Nat) ≤ (5 : Nat)); letI z30 := ((5 : Nat) ≤ (5 : Nat)); letI z31 := ((0 : Nat) < (5 : Nat)); letI z32 := ((0 : Int) ≤ z12); (True ∧ (pcond (Decidable.decide (z12 < z24)) (True ∧ (True ∧ (True ∧ (True ∧ ((z32 ∧ (z12 < z24)) ∧ ((((z2 + (5 : Nat)) ≤ (List.length (linesD a))) ∧ ((IsStr z13) ∧ ((IsInt IntKind.i64 z14) ∧ ((IsInt IntKind.i64 z7) ∧ ((IsInt IntKind.i64 z15) ∧ ((IsInt IntKind.i64 z8) ∧ True)))))) ∧ (True ∧ (True ∧ ((z32 ∧ (z12 < ((z28 : Nat) : Int))) ∧ ((((z2 + (5 : Nat)) ≤ (List.length (linesD b))) ∧ ((IsStr z16) ∧ ((IsInt IntKind.i64 z17) ∧ ((IsInt IntKind.i64 z9) ∧ ((IsInt IntKind.i64 z18) ∧ ((IsInt IntKind.i64 z10) ∧ True)))))) ∧ ((((z31 ∧ (IsStr (D.v (Value.string (cellStr z13))))) ∧ (z31 ∧ (IsStr (D.v (Value.string (cellStr z16)))))) ∧ (True ∧ ((z29 ∧ z29) ∧ ((((z21 ∧ (IsInt IntKind.i64 (D.v (Value.int IntKind.i64 (cellInt z14))))) ∧ (z21 ∧ (IsInt IntKind.i64 (D.v (Value.int IntKind.i64 (cellInt z17)))))) ∧ (True ∧ (((z22 ∧ (IsInt IntKind.i64 (D.v (Value.int IntKind.i64 (cellInt z7))))) ∧ (z22 ∧ (IsInt IntKind.i64 (D.v (Value.int IntKind.i64 (cellInt z9)))))) ∧ (True ∧ True)))) ∧ ((z30 ∧ z30) ∧ ((((z21 ∧ (IsInt IntKind.i64 (D.v (Value.int IntKind.i64 (cellInt z15))))) ∧ (z21 ∧ (IsInt IntKind.i64 (D.v (Value.int IntKind.i64 (cellInt z18)))))) ∧ (True ∧ (((z22 ∧ (IsInt IntKind.i64 (D.v (Value.int IntKind.i64 (cellInt z8))))) ∧ (z22 ∧ (IsInt IntKind.i64 (D.v (Value.int IntKind.i64 (cellInt z10)))))) ∧ (True ∧ True)))) ∧ True)))))) ∧ ((Bool.true = Bool.true) ∧ (pcond (!(((cellStr z13) == (cellStr z16)) && ((((cellInt z14) == (cellInt z17)) && (((cellInt z7) == (cellInt z9)) && Bool.true)) && ((((cellInt z15) == (cellInt z18)) && (((cellInt z8) == (cellInt z10)) && Bool.true)) && Bool.true)))) (True ∧ ((∃ (r : Unit), (∃ (kp : z20), ((z26 = Bool.true) ∧ ((Exit.ret = z19) ∧ (viewAll kp [z5] z6 (Prod.fst (Prod.snd ((fun (x_1 : Unit) => z1) r))) (Prod.snd (Prod.snd ((fun (x_1 : Unit) => z1) r)))))))) ∨ (∃ (r : Unit), (∃ (kp : z20), ((z26 = Bool.false) ∧ ((Exit.ret = Exit.ret) ∧ (viewAll kp [z25] z6 (Prod.fst (Prod.snd ((fun (x_1 : Unit) => z3) r))) (Prod.snd (Prod.snd ((fun (x_1 : Unit) => z3) r)))))))))) (True ∧ (True ∧ (∃ (y : Nat), (∃ (kp : z20), (((z11 - y) < (z11 - x)) ∧ (((z11 = z28) ∧ ((y ≤ z11) ∧ (∀ (j : Nat), ((j < y) → ((linE (List.getD a j (Inhabited.default)) (List.getD b j (Inhabited.default))) = Bool.true))))) ∧ (viewAll kp [z5, z23, (Prod.mk (12 : Nat) (D.v (Value.int IntKind.i64 z24))), (Prod.mk (13 : Nat) (D.v (Value.int IntKind.i64 (IntKind.wrap IntKind.i64 (z12 + (1 : Int))))))] z6 [z5, z23, (Prod.mk (12 : Nat) (d_i z24)), (Prod.mk (13 : Nat) (d_i ((y : Nat) : Int)))] z6)))))))))))))))))))) ((∃ (r : Unit), (∃ (kp : z20), ((z26 = Bool.true) ∧ ((z19 = z19) ∧ (viewAll kp [z5] z6 (Prod.fst (Prod.snd ((fun (x_1 : Unit) => z1) r))) (Prod.snd (Prod.snd ((fun (x_1 : Unit) => z1) r)))))))) ∨ (∃ (r : Unit), (∃ (kp : z20), ((z26 = Bool.false) ∧ ((z19 = Exit.ret) ∧ (viewAll kp ([] : List (Prod Nat D)) z6 (Prod.fst (Prod.snd ((fun (x_1 : Unit) => z3) r))) (Prod.snd (Prod.snd ((fun (x_1 : Unit) => z3) r)))))))))))) (by kernel_rfl) ?_
  have hm : a.length ≤ 9223372036854775807 := hpre
  obtain ⟨hl, hx, hall⟩ := hJ
  simp only [true_and, and_true, and_self, IsInt_lit, IsBool_lit, IsStr_lit, IsSl_lit, cellN_lit, cellL_lit, Bool.not_eq_true', Bool.not_eq_false', Bool.not_true, Bool.not_false, Int.reduceLE, Int.reduceLT, Int.reduceNeg, Nat.le_refl, Int.le_refl, Nat.reduceLT, Nat.reduceLeDiff, Nat.reduceEqDiff, D.v.injEq, D.tup.injEq, D.agg.injEq, D.ro.injEq, List.cons.injEq, Value.int.injEq, Value.bool.injEq, pcond_true, pcond_false, NamelessL, Nameless, Nat.reduceMul, Nat.reduceAdd, Nat.zero_add, Int.toNat_natCast]
  refine pcond_intro (fun h => ?_) (fun h => .inl ⟨(), [], ?_, ⟨rfl, rfl, ⟨trivial, rfl⟩, trivial⟩⟩)
  · simp only [decide_eq_true_eq] at h
    have hxa : x < a.length := by omega
    have ga := linesD_get a x hxa
    have gb := linesD_get b x (by omega)
    have hb := linesD_length b
    have ha := linesD_length a
    have hz : ∀ u v : ByteArray, (u == v) = sE u v := beq_sE
    simp only [ga, gb, cellStr_lit, IsStr_lit, cellInt_lit, IsInt_lit, wrap_succ hxa hm, hz, true_and, and_true]
    refine ⟨⟨by omega, by omega⟩, (by omega), ⟨by omega, by omega⟩, (by omega), pcond_intro (fun h1 => .inr ⟨(), [], allI_not hxa ?_, ⟨rfl, rfl, ⟨trivial, rfl⟩, trivial⟩⟩) (fun h1 => ⟨x + 1, [], by omega, ⟨hl, by omega, fun j hj => ?_⟩, ⟨rfl, rfl, ⟨trivial, rfl⟩, ⟨trivial, rfl⟩, ⟨trivial, rfl⟩, ⟨trivial, rfl⟩, trivial⟩⟩)⟩
    · rw [Bool.not_eq_true'] at h1
      rw [← h1]
      simp only [linE, impE, Bool.and_true, Bool.and_assoc]
    · rcases Nat.lt_or_ge j x with h2 | h2
      · exact hall j h2
      · rw [show j = x by omega]
        rw [Bool.not_eq_false'] at h1
        rw [← h1]
        simp only [linE, impE, Bool.and_true, Bool.and_assoc]
  · simp only [decide_eq_false_iff_not] at h
    exact allI_of fun j hj => hall j (by omega)
def lp_eqGLoop (a b : List Src) : LoopO := loopRule2 (α := Nat) (β := Unit) (γ := Unit) [] (fun i => a.length = b.length ∧ i ≤ a.length ∧ ∀ j, j < i → srcE (a.getD j default) (b.getD j default) = true) (fun i => [(0, .ro a.length (srcsD a)), (1, .ro b.length (srcsD b)), (12, d_i (a.length : Int)), (13, d_i (i : Int))]) (fun i => []) (0) (fun _ => allI srcE a b = true) (fun _ => (.exit 0, [(0, .ro a.length (srcsD a))], [])) (fun _ => allI srcE a b = false) (fun _ => (.ret, [(4, .v (.bool false))], []))
theorem eqGLoop_rule (a b : List Src) (hpre : a.length ≤ maxLen) : LRuleP Tryd.prog Tryd.f37.ntmps (loopAt ((Tryd.f37.body).getD .skip) 4) (lp_eqGLoop a b) := by
  refine lrule_of2 (α := Nat) (β := Unit) (γ := Unit) (call := noCalls) (lp := fun _ => none) (N := 10) T_ok mixed noCalls_ok (fun i => a.length - i) (by kernel_rfl) (LpAllP.none _) ?_
  intro x hJ
  refine of_eq (B := letI z13 := ((x : Nat) : Int); letI z3 := ((Int.toNat z13) * (6 : Nat)); letI z0 := (z3 + (1 : Nat)); letI z30 := (z0 + (1 : Nat)); letI z1 := (z30 + (1 : Nat)); letI z22 := (Exit.exit (0 : Nat)); letI z12 := List.length a; letI z5 := (Prod.mk (0 : Nat) (D.ro z12 (srcsD a))); letI z6 := ([] : List (Option Blk)); letI z2 := (Prod.mk z22 (Prod.mk [z5] z6)); letI z28 := (Prod.mk (4 : Nat) (D.v (Value.bool Bool.false))); letI z4 := (Prod.mk Exit.ret (Prod.mk [z28] z6)); letI z7 := (z1 + (1 : Nat)); letI z8 := (List.getD (srcsD a) z30 (Inhabited.default)); letI z9 := (List.getD (srcsD a) (z7 + (1 : Nat)) (Inhabited.default)); letI z10 := (List.getD (srcsD b) z30 (Inhabited.default)); letI z11 := (List.getD (srcsD b) (z7 + (1 : Nat)) (Inhabited.default)); letI z14 := (List.getD (srcsD a) z3 (Inhabited.default)); letI z15 := (List.getD (srcsD a) z0 (Inhabited.default)); letI z16 := (List.getD (srcsD a) z1 (Inhabited.default)); letI z17 := (List.getD (srcsD a) z7 (Inhabited.default)); letI z18 := (List.getD (srcsD b) z3 (Inhabited.default)); letI z19 := (List.getD (srcsD b) z0 (Inhabited.default)); letI z20 := (List.getD (srcsD b) z1 (Inhabited.default)); letI z21 := (List.getD (srcsD b) z7 (Inhabited.default)); letI z23 := (List (Option Nat)); letI z24 := ((0 : Nat) < (2 : Nat)); letI z25 := ((1 : Nat) < (2 : Nat)); letI z31 := List.length b; letI z26 := (Prod.mk (1 : Nat) (D.ro z31 (srcsD b))); letI z27 := ((z12 : Nat) : Int); letI z29 := allI srcE a b; letI z32 := ((4 : Nat) ≤ (6 : Nat)); letI z33 := ((6 : Nat) ≤ (6 : Nat)); letI z34 := ((0 : Nat) < (6 : Nat)); letI z35 := ((1 : Nat) < (6 : Nat)); letI z36 := ((0 : Int) ≤ z13); (True ∧ (pcond (Decidable.decide (z13 < z27)) (True ∧ (True ∧ (True ∧ (True ∧ ((z36 ∧ (z13 < z27)) ∧ ((((z3 + (6 : Nat)) ≤ (List.length (srcsD a))) ∧ ((IsStr z14) ∧ ((IsInt IntKind.i64 z15) ∧ ((IsInt IntKind.i64 z8) ∧ ((IsInt IntKind.i64 z16) ∧ ((IsInt IntKind.i64 z17) ∧ ((IsInt IntKind.i64 z9) ∧ True))))))) ∧ (True ∧ (True ∧ ((z36 ∧ (z13 < ((z31 : Nat) : Int))) ∧ ((((z3 + (6 : Nat)) ≤ (List.length (srcsD b))) ∧ ((IsStr z18) ∧ ((IsInt IntKind.i64 z19) ∧ ((IsInt IntKind.i64 z10) ∧ ((IsInt IntKind.i64 z20) ∧ ((IsInt IntKind.i64 z21) ∧ ((IsInt IntKind.i64 z11) ∧ True))))))) ∧ ((((z34 ∧ (IsStr (D.v (Value.string (cellStr z14))))) ∧ (z34 ∧ (IsStr (D.v (Value.string (cellStr z18)))))) ∧ (True ∧ (((z35 ∧ (IsInt IntKind.i64 (D.v (Value.int IntKind.i64 (cellInt z15))))) ∧ (z35 ∧ (IsInt IntKind.i64 (D.v (Value.int IntKind.i64 (cellInt z19)))))) ∧ (True ∧ ((z32 ∧ z32) ∧ ((((z24 ∧ (IsInt IntKind.i64 (D.v (Value.int IntKind.i64 (cellInt z8))))) ∧ (z24 ∧ (IsInt IntKind.i64 (D.v (Value.int IntKind.i64 (cellInt z10)))))) ∧ (True ∧ (((z25 ∧ (IsInt IntKind.i64 (D.v (Value.int IntKind.i64 (cellInt z16))))) ∧ (z25 ∧ (IsInt IntKind.i64 (D.v (Value.int IntKind.i64 (cellInt z20)))))) ∧ (True ∧ True)))) ∧ ((z33 ∧ z33) ∧ ((((z24 ∧ (IsInt IntKind.i64 (D.v (Value.int IntKind.i64 (cellInt z17))))) ∧ (z24 ∧ (IsInt IntKind.i64 (D.v (Value.int IntKind.i64 (cellInt z21)))))) ∧ (True ∧ (((z25 ∧ (IsInt IntKind.i64 (D.v (Value.int IntKind.i64 (cellInt z9))))) ∧ (z25 ∧ (IsInt IntKind.i64 (D.v (Value.int IntKind.i64 (cellInt z11)))))) ∧ (True ∧ True)))) ∧ True)))))))) ∧ ((Bool.true = Bool.true) ∧ (pcond (!(((cellStr z14) == (cellStr z18)) && (((cellInt z15) == (cellInt z19)) && ((((cellInt z8) == (cellInt z10)) && (((cellInt z16) == (cellInt z20)) && Bool.true)) && ((((cellInt z17) == (cellInt z21)) && (((cellInt z9) == (cellInt z11)) && Bool.true)) && Bool.true))))) (True ∧ ((∃ (r : Unit), (∃ (kp : z23), ((z29 = Bool.true) ∧ ((Exit.ret = z22) ∧ (viewAll kp [z5] z6 (Prod.fst (Prod.snd ((fun (x_1 : Unit) => z2) r))) (Prod.snd (Prod.snd ((fun (x_1 : Unit) => z2) r)))))))) ∨ (∃ (r : Unit), (∃ (kp : z23), ((z29 = Bool.false) ∧ ((Exit.ret = Exit.ret) ∧ (viewAll kp [z28] z6 (Prod.fst (Prod.snd ((fun (x_1 : Unit) => z4) r))) (Prod.snd (Prod.snd ((fun (x_1 : Unit) => z4) r)))))))))) (True ∧ (True ∧ (∃ (y : Nat), (∃ (kp : z23), (((z12 - y) < (z12 - x)) ∧ (((z12 = z31) ∧ ((y ≤ z12) ∧ (∀ (j : Nat), ((j < y) → ((srcE (List.getD a j (Inhabited.default)) (List.getD b j (Inhabited.default))) = Bool.true))))) ∧ (viewAll kp [z5, z26, (Prod.mk (12 : Nat) (D.v (Value.int IntKind.i64 z27))), (Prod.mk (13 : Nat) (D.v (Value.int IntKind.i64 (IntKind.wrap IntKind.i64 (z13 + (1 : Int))))))] z6 [z5, z26, (Prod.mk (12 : Nat) (d_i z27)), (Prod.mk (13 : Nat) (d_i ((y : Nat) : Int)))] z6)))))))))))))))))))) ((∃ (r : Unit), (∃ (kp : z23), ((z29 = Bool.true) ∧ ((z22 = z22) ∧ (viewAll kp [z5] z6 (Prod.fst (Prod.snd ((fun (x_1 : Unit) => z2) r))) (Prod.snd (Prod.snd ((fun (x_1 : Unit) => z2) r)))))))) ∨ (∃ (r : Unit), (∃ (kp : z23), ((z29 = Bool.false) ∧ ((z22 = Exit.ret) ∧ (viewAll kp ([] : List (Prod Nat D)) z6 (Prod.fst (Prod.snd ((fun (x_1 : Unit) => z4) r))) (Prod.snd (Prod.snd ((fun (x_1 : Unit) => z4) r)))))))))))) (by kernel_rfl) ?_
  have hm : a.length ≤ 9223372036854775807 := hpre
  obtain ⟨hl, hx, hall⟩ := hJ
  simp only [true_and, and_true, and_self, IsInt_lit, IsBool_lit, IsStr_lit, IsSl_lit, cellN_lit, cellL_lit, Bool.not_eq_true', Bool.not_eq_false', Bool.not_true, Bool.not_false, Int.reduceLE, Int.reduceLT, Int.reduceNeg, Nat.le_refl, Int.le_refl, Nat.reduceLT, Nat.reduceLeDiff, Nat.reduceEqDiff, D.v.injEq, D.tup.injEq, D.agg.injEq, D.ro.injEq, List.cons.injEq, Value.int.injEq, Value.bool.injEq, pcond_true, pcond_false, NamelessL, Nameless, Nat.reduceMul, Nat.reduceAdd, Nat.zero_add, Int.toNat_natCast]
  refine pcond_intro (fun h => ?_) (fun h => .inl ⟨(), [], ?_, ⟨rfl, rfl, ⟨trivial, rfl⟩, trivial⟩⟩)
  · simp only [decide_eq_true_eq] at h
    have hxa : x < a.length := by omega
    have ga := srcsD_get a x hxa
    have gb := srcsD_get b x (by omega)
    have hb := srcsD_length b
    have ha := srcsD_length a
    have hz : ∀ u v : ByteArray, (u == v) = sE u v := beq_sE
    simp only [ga, gb, cellStr_lit, IsStr_lit, cellInt_lit, IsInt_lit, wrap_succ hxa hm, hz, true_and, and_true]
    refine ⟨⟨by omega, by omega⟩, (by omega), ⟨by omega, by omega⟩, (by omega), pcond_intro (fun h1 => .inr ⟨(), [], allI_not hxa ?_, ⟨rfl, rfl, ⟨trivial, rfl⟩, trivial⟩⟩) (fun h1 => ⟨x + 1, [], by omega, ⟨hl, by omega, fun j hj => ?_⟩, ⟨rfl, rfl, ⟨trivial, rfl⟩, ⟨trivial, rfl⟩, ⟨trivial, rfl⟩, ⟨trivial, rfl⟩, trivial⟩⟩)⟩
    · rw [Bool.not_eq_true'] at h1
      rw [← h1]
      simp only [srcE, impE, Bool.and_true, Bool.and_assoc]
    · rcases Nat.lt_or_ge j x with h2 | h2
      · exact hall j h2
      · rw [show j = x by omega]
        rw [Bool.not_eq_false'] at h1
        rw [← h1]
        simp only [srcE, impE, Bool.and_true, Bool.and_assoc]
  · simp only [decide_eq_false_iff_not] at h
    exact allI_of fun j hj => hall j (by omega)
def lp_eqKLoop (a b : List Lnk) : LoopO := loopRule2 (α := Nat) (β := Unit) (γ := Unit) [] (fun i => a.length = b.length ∧ i ≤ a.length ∧ ∀ j, j < i → lnkE (a.getD j default) (b.getD j default) = true) (fun i => [(0, .ro a.length (lnksD a)), (1, .ro b.length (lnksD b)), (12, d_i (a.length : Int)), (13, d_i (i : Int))]) (fun i => []) (0) (fun _ => allI lnkE a b = true) (fun _ => (.exit 0, [(0, .ro a.length (lnksD a))], [])) (fun _ => allI lnkE a b = false) (fun _ => (.ret, [(4, .v (.bool false))], []))
theorem eqKLoop_rule (a b : List Lnk) (hpre : a.length ≤ maxLen) : LRuleP Tryd.prog Tryd.f59.ntmps (loopAt ((Tryd.f59.body).getD .skip) 4) (lp_eqKLoop a b) := by
  refine lrule_of2 (α := Nat) (β := Unit) (γ := Unit) (call := noCalls) (lp := fun _ => none) (N := 10) T_ok mixed noCalls_ok (fun i => a.length - i) (by kernel_rfl) (LpAllP.none _) ?_
  intro x hJ
  refine of_eq (B := letI z8 := ((x : Nat) : Int); letI z0 := ((Int.toNat z8) * (2 : Nat)); letI z11 := (Exit.exit (0 : Nat)); letI z7 := List.length a; letI z3 := (Prod.mk (0 : Nat) (D.ro z7 (lnksD a))); letI z4 := ([] : List (Option Blk)); letI z1 := (Prod.mk z11 (Prod.mk [z3] z4)); letI z14 := (Prod.mk (4 : Nat) (D.v (Value.bool Bool.false))); letI z2 := (Prod.mk Exit.ret (Prod.mk [z14] z4)); letI z5 := (List.getD (lnksD a) (z0 + (1 : Nat)) (Inhabited.default)); letI z6 := (List.getD (lnksD b) (z0 + (1 : Nat)) (Inhabited.default)); letI z9 := (List.getD (lnksD a) z0 (Inhabited.default)); letI z10 := (List.getD (lnksD b) z0 (Inhabited.default)); letI z12 := (List (Option Nat)); letI z17 := List.length b; letI z13 := (Prod.mk (1 : Nat) (D.ro z17 (lnksD b))); letI z15 := ((z7 : Nat) : Int); letI z16 := allI lnkE a b; letI z18 := ((0 : Nat) < (2 : Nat)); letI z19 := ((1 : Nat) < (2 : Nat)); (True ∧ (pcond (Decidable.decide (z8 < z15)) (True ∧ (True ∧ (True ∧ (True ∧ ((((0 : Int) ≤ z8) ∧ (z8 < z15)) ∧ ((((z0 + (2 : Nat)) ≤ (List.length (lnksD a))) ∧ ((IsInt IntKind.i64 z9) ∧ ((IsInt IntKind.i64 z5) ∧ True))) ∧ (True ∧ (True ∧ ((((0 : Int) ≤ z8) ∧ (z8 < ((z17 : Nat) : Int))) ∧ ((((z0 + (2 : Nat)) ≤ (List.length (lnksD b))) ∧ ((IsInt IntKind.i64 z10) ∧ ((IsInt IntKind.i64 z6) ∧ True))) ∧ ((((z18 ∧ (IsInt IntKind.i64 (D.v (Value.int IntKind.i64 (cellInt z9))))) ∧ (z18 ∧ (IsInt IntKind.i64 (D.v (Value.int IntKind.i64 (cellInt z10)))))) ∧ (True ∧ (((z19 ∧ (IsInt IntKind.i64 (D.v (Value.int IntKind.i64 (cellInt z5))))) ∧ (z19 ∧ (IsInt IntKind.i64 (D.v (Value.int IntKind.i64 (cellInt z6)))))) ∧ (True ∧ True)))) ∧ ((Bool.true = Bool.true) ∧ (pcond (!(((cellInt z9) == (cellInt z10)) && (((cellInt z5) == (cellInt z6)) && Bool.true))) (True ∧ ((∃ (r : Unit), (∃ (kp : z12), ((z16 = Bool.true) ∧ ((Exit.ret = z11) ∧ (viewAll kp [z3] z4 (Prod.fst (Prod.snd ((fun (x_1 : Unit) => z1) r))) (Prod.snd (Prod.snd ((fun (x_1 : Unit) => z1) r)))))))) ∨ (∃ (r : Unit), (∃ (kp : z12), ((z16 = Bool.false) ∧ ((Exit.ret = Exit.ret) ∧ (viewAll kp [z14] z4 (Prod.fst (Prod.snd ((fun (x_1 : Unit) => z2) r))) (Prod.snd (Prod.snd ((fun (x_1 : Unit) => z2) r)))))))))) (True ∧ (True ∧ (∃ (y : Nat), (∃ (kp : z12), (((z7 - y) < (z7 - x)) ∧ (((z7 = z17) ∧ ((y ≤ z7) ∧ (∀ (j : Nat), ((j < y) → ((lnkE (List.getD a j (Inhabited.default)) (List.getD b j (Inhabited.default))) = Bool.true))))) ∧ (viewAll kp [z3, z13, (Prod.mk (12 : Nat) (D.v (Value.int IntKind.i64 z15))), (Prod.mk (13 : Nat) (D.v (Value.int IntKind.i64 (IntKind.wrap IntKind.i64 (z8 + (1 : Int))))))] z4 [z3, z13, (Prod.mk (12 : Nat) (d_i z15)), (Prod.mk (13 : Nat) (d_i ((y : Nat) : Int)))] z4)))))))))))))))))))) ((∃ (r : Unit), (∃ (kp : z12), ((z16 = Bool.true) ∧ ((z11 = z11) ∧ (viewAll kp [z3] z4 (Prod.fst (Prod.snd ((fun (x_1 : Unit) => z1) r))) (Prod.snd (Prod.snd ((fun (x_1 : Unit) => z1) r)))))))) ∨ (∃ (r : Unit), (∃ (kp : z12), ((z16 = Bool.false) ∧ ((z11 = Exit.ret) ∧ (viewAll kp ([] : List (Prod Nat D)) z4 (Prod.fst (Prod.snd ((fun (x_1 : Unit) => z2) r))) (Prod.snd (Prod.snd ((fun (x_1 : Unit) => z2) r)))))))))))) (by kernel_rfl) ?_
  have hm : a.length ≤ 9223372036854775807 := hpre
  obtain ⟨hl, hx, hall⟩ := hJ
  simp only [true_and, and_true, and_self, IsInt_lit, IsBool_lit, IsStr_lit, IsSl_lit, cellN_lit, cellL_lit, Bool.not_eq_true', Bool.not_eq_false', Bool.not_true, Bool.not_false, Int.reduceLE, Int.reduceLT, Int.reduceNeg, Nat.le_refl, Int.le_refl, Nat.reduceLT, Nat.reduceLeDiff, Nat.reduceEqDiff, D.v.injEq, D.tup.injEq, D.agg.injEq, D.ro.injEq, List.cons.injEq, Value.int.injEq, Value.bool.injEq, pcond_true, pcond_false, NamelessL, Nameless, Nat.reduceMul, Nat.reduceAdd, Nat.zero_add, Int.toNat_natCast]
  refine pcond_intro (fun h => ?_) (fun h => .inl ⟨(), [], ?_, ⟨rfl, rfl, ⟨trivial, rfl⟩, trivial⟩⟩)
  · simp only [decide_eq_true_eq] at h
    have hxa : x < a.length := by omega
    have ga := lnksD_get a x hxa
    have gb := lnksD_get b x (by omega)
    have hb := lnksD_length b
    have ha := lnksD_length a
    have hz : ∀ u v : ByteArray, (u == v) = sE u v := beq_sE
    simp only [ga, gb, cellStr_lit, IsStr_lit, cellInt_lit, IsInt_lit, wrap_succ hxa hm, hz, true_and, and_true]
    refine ⟨⟨by omega, by omega⟩, (by omega), ⟨by omega, by omega⟩, (by omega), pcond_intro (fun h1 => .inr ⟨(), [], allI_not hxa ?_, ⟨rfl, rfl, ⟨trivial, rfl⟩, trivial⟩⟩) (fun h1 => ⟨x + 1, [], by omega, ⟨hl, by omega, fun j hj => ?_⟩, ⟨rfl, rfl, ⟨trivial, rfl⟩, ⟨trivial, rfl⟩, ⟨trivial, rfl⟩, ⟨trivial, rfl⟩, trivial⟩⟩)⟩
    · rw [Bool.not_eq_true'] at h1
      rw [← h1]
      simp only [lnkE, impE, Bool.and_true, Bool.and_assoc]
    · rcases Nat.lt_or_ge j x with h2 | h2
      · exact hall j h2
      · rw [show j = x by omega]
        rw [Bool.not_eq_false'] at h1
        rw [← h1]
        simp only [lnkE, impE, Bool.and_true, Bool.and_assoc]
  · simp only [decide_eq_false_iff_not] at h
    exact allI_of fun j hj => hall j (by omega)
theorem eqS_pure (a b : List ByteArray) (hpre : a.length ≤ maxLen) : PureJ Tryd.prog 35 [.ro a.length (busesD a), .ro b.length (busesD b)] (.v (.bool (lEq sE a b))) := by
  refine pureJ_of_vcp (call := noCalls) (lp := fun reg__ => bif Nat.beq reg__ 4 then some (lp_eqSLoop a b) else none) (N := 10) T_ok mixed noCalls_ok Tryd.func35 rfl (by decide) (by kernel_rfl) (by kernel_rfl) (of_eq (B := LRuleP Tryd.prog Tryd.f35.ntmps (loopAt ((Tryd.f35.body).getD .skip) 4) (lp_eqSLoop a b) ∧ True) (by kernel_rfl) ⟨eqSLoop_rule a b hpre, trivial⟩) (by first | exact ⟨busesD_nl a, busesD_nl b, trivial⟩ | trivial) (by first | exact ⟨busesD_nl a, busesD_nl b, trivial⟩ | trivial) ?_
  refine of_eq (B := letI z5 := (D.v (Value.bool (lEq sE a b))); letI z0 := (True ∧ (True ∧ ((D.v (Value.bool Bool.false)) = z5))); letI z1 := List.length a; letI z2 := (D.v (Value.int IntKind.i64 ((z1 : Nat) : Int))); letI z3 := List.length b; letI z4 := (D.v (Value.int IntKind.i64 (0 : Int))); letI z6 := ([] : List (Option Blk)); letI z7 := (D.ro z1 (busesD a)); letI z8 := (D.ro z3 (busesD b)); (True ∧ (True ∧ (True ∧ (True ∧ (True ∧ (True ∧ (pcond (((z1 : Nat) : Int) != ((z3 : Nat) : Int)) (True ∧ z0) (True ∧ (True ∧ (True ∧ (((z1 = z3) ∧ (((0 : Nat) ≤ z1) ∧ (∀ (j : Nat), ((j < (0 : Nat)) → ((sE (List.getD a j (Inhabited.default)) (List.getD b j (Inhabited.default))) = Bool.true))))) ∧ (((Bool.true = Bool.true) ∧ ((z6 = z6) ∧ ((True ∧ (z7 = z7)) ∧ ((True ∧ (z8 = z8)) ∧ ((True ∧ (z2 = z2)) ∧ ((True ∧ (z4 = z4)) ∧ True)))))) ∧ ((Unit → (((allI sE a b) = Bool.true) → (True ∧ (True ∧ (True ∧ ((D.v (Value.bool Bool.true)) = z5)))))) ∧ (Unit → (((allI sE a b) = Bool.false) → z0)))))))))))))))) (by kernel_rfl) ?_
  simp only [true_and, and_true, and_self, IsInt_lit, IsBool_lit, IsStr_lit, IsSl_lit, cellN_lit, cellL_lit, Bool.not_eq_true', Bool.not_eq_false', Bool.not_true, Bool.not_false, Int.reduceLE, Int.reduceLT, Int.reduceNeg, Nat.le_refl, Int.le_refl, Nat.reduceLT, Nat.reduceLeDiff, Nat.reduceEqDiff, D.v.injEq, D.tup.injEq, D.agg.injEq, D.ro.injEq, List.cons.injEq, Value.int.injEq, Value.bool.injEq, pcond_true, pcond_false, NamelessL, Nameless, Nat.reduceMul, Nat.reduceAdd, Nat.zero_add, Int.toNat_natCast]
  have hm : a.length ≤ 9223372036854775807 := hpre
  refine pcond_intro (fun h => ?_) (fun h => ?_)
  · rw [bne_iff_ne] at h
    unfold lEq; rw [decide_eq_false (by omega)]; rfl
  · rw [bne_eq_false_iff_eq] at h
    have hl : a.length = b.length := by omega
    have hd : decide (a.length = b.length) = true := decide_eq_true hl
    refine ⟨⟨hl, Nat.zero_le _, fun j h => absurd h (Nat.not_lt_zero _)⟩, fun _ h => ?_, fun _ h => ?_⟩
    · unfold lEq; rw [h, hd]; rfl
    · unfold lEq; rw [h, hd]; rfl
theorem eqL_pure (a b : List Lin) (hpre : a.length ≤ maxLen) : PureJ Tryd.prog 36 [.ro a.length (linesD a), .ro b.length (linesD b)] (.v (.bool (lEq linE a b))) := by
  refine pureJ_of_vcp (call := noCalls) (lp := fun reg__ => bif Nat.beq reg__ 4 then some (lp_eqLLoop a b) else none) (N := 10) T_ok mixed noCalls_ok Tryd.func36 rfl (by decide) (by kernel_rfl) (by kernel_rfl) (of_eq (B := LRuleP Tryd.prog Tryd.f36.ntmps (loopAt ((Tryd.f36.body).getD .skip) 4) (lp_eqLLoop a b) ∧ True) (by kernel_rfl) ⟨eqLLoop_rule a b hpre, trivial⟩) (by first | exact ⟨linesD_nl a, linesD_nl b, trivial⟩ | trivial) (by first | exact ⟨linesD_nl a, linesD_nl b, trivial⟩ | trivial) ?_
  refine of_eq (B := letI z5 := (D.v (Value.bool (lEq linE a b))); letI z0 := (True ∧ (True ∧ ((D.v (Value.bool Bool.false)) = z5))); letI z1 := List.length a; letI z2 := (D.v (Value.int IntKind.i64 ((z1 : Nat) : Int))); letI z3 := List.length b; letI z4 := (D.v (Value.int IntKind.i64 (0 : Int))); letI z6 := ([] : List (Option Blk)); letI z7 := (D.ro z1 (linesD a)); letI z8 := (D.ro z3 (linesD b)); (True ∧ (True ∧ (True ∧ (True ∧ (True ∧ (True ∧ (pcond (((z1 : Nat) : Int) != ((z3 : Nat) : Int)) (True ∧ z0) (True ∧ (True ∧ (True ∧ (((z1 = z3) ∧ (((0 : Nat) ≤ z1) ∧ (∀ (j : Nat), ((j < (0 : Nat)) → ((linE (List.getD a j (Inhabited.default)) (List.getD b j (Inhabited.default))) = Bool.true))))) ∧ (((Bool.true = Bool.true) ∧ ((z6 = z6) ∧ ((True ∧ (z7 = z7)) ∧ ((True ∧ (z8 = z8)) ∧ ((True ∧ (z2 = z2)) ∧ ((True ∧ (z4 = z4)) ∧ True)))))) ∧ ((Unit → (((allI linE a b) = Bool.true) → (True ∧ (True ∧ (True ∧ ((D.v (Value.bool Bool.true)) = z5)))))) ∧ (Unit → (((allI linE a b) = Bool.false) → z0)))))))))))))))) (by kernel_rfl) ?_
  simp only [true_and, and_true, and_self, IsInt_lit, IsBool_lit, IsStr_lit, IsSl_lit, cellN_lit, cellL_lit, Bool.not_eq_true', Bool.not_eq_false', Bool.not_true, Bool.not_false, Int.reduceLE, Int.reduceLT, Int.reduceNeg, Nat.le_refl, Int.le_refl, Nat.reduceLT, Nat.reduceLeDiff, Nat.reduceEqDiff, D.v.injEq, D.tup.injEq, D.agg.injEq, D.ro.injEq, List.cons.injEq, Value.int.injEq, Value.bool.injEq, pcond_true, pcond_false, NamelessL, Nameless, Nat.reduceMul, Nat.reduceAdd, Nat.zero_add, Int.toNat_natCast]
  have hm : a.length ≤ 9223372036854775807 := hpre
  refine pcond_intro (fun h => ?_) (fun h => ?_)
  · rw [bne_iff_ne] at h
    unfold lEq; rw [decide_eq_false (by omega)]; rfl
  · rw [bne_eq_false_iff_eq] at h
    have hl : a.length = b.length := by omega
    have hd : decide (a.length = b.length) = true := decide_eq_true hl
    refine ⟨⟨hl, Nat.zero_le _, fun j h => absurd h (Nat.not_lt_zero _)⟩, fun _ h => ?_, fun _ h => ?_⟩
    · unfold lEq; rw [h, hd]; rfl
    · unfold lEq; rw [h, hd]; rfl
theorem eqG_pure (a b : List Src) (hpre : a.length ≤ maxLen) : PureJ Tryd.prog 37 [.ro a.length (srcsD a), .ro b.length (srcsD b)] (.v (.bool (lEq srcE a b))) := by
  refine pureJ_of_vcp (call := noCalls) (lp := fun reg__ => bif Nat.beq reg__ 4 then some (lp_eqGLoop a b) else none) (N := 10) T_ok mixed noCalls_ok Tryd.func37 rfl (by decide) (by kernel_rfl) (by kernel_rfl) (of_eq (B := LRuleP Tryd.prog Tryd.f37.ntmps (loopAt ((Tryd.f37.body).getD .skip) 4) (lp_eqGLoop a b) ∧ True) (by kernel_rfl) ⟨eqGLoop_rule a b hpre, trivial⟩) (by first | exact ⟨srcsD_nl a, srcsD_nl b, trivial⟩ | trivial) (by first | exact ⟨srcsD_nl a, srcsD_nl b, trivial⟩ | trivial) ?_
  refine of_eq (B := letI z5 := (D.v (Value.bool (lEq srcE a b))); letI z0 := (True ∧ (True ∧ ((D.v (Value.bool Bool.false)) = z5))); letI z1 := List.length a; letI z2 := (D.v (Value.int IntKind.i64 ((z1 : Nat) : Int))); letI z3 := List.length b; letI z4 := (D.v (Value.int IntKind.i64 (0 : Int))); letI z6 := ([] : List (Option Blk)); letI z7 := (D.ro z1 (srcsD a)); letI z8 := (D.ro z3 (srcsD b)); (True ∧ (True ∧ (True ∧ (True ∧ (True ∧ (True ∧ (pcond (((z1 : Nat) : Int) != ((z3 : Nat) : Int)) (True ∧ z0) (True ∧ (True ∧ (True ∧ (((z1 = z3) ∧ (((0 : Nat) ≤ z1) ∧ (∀ (j : Nat), ((j < (0 : Nat)) → ((srcE (List.getD a j (Inhabited.default)) (List.getD b j (Inhabited.default))) = Bool.true))))) ∧ (((Bool.true = Bool.true) ∧ ((z6 = z6) ∧ ((True ∧ (z7 = z7)) ∧ ((True ∧ (z8 = z8)) ∧ ((True ∧ (z2 = z2)) ∧ ((True ∧ (z4 = z4)) ∧ True)))))) ∧ ((Unit → (((allI srcE a b) = Bool.true) → (True ∧ (True ∧ (True ∧ ((D.v (Value.bool Bool.true)) = z5)))))) ∧ (Unit → (((allI srcE a b) = Bool.false) → z0)))))))))))))))) (by kernel_rfl) ?_
  simp only [true_and, and_true, and_self, IsInt_lit, IsBool_lit, IsStr_lit, IsSl_lit, cellN_lit, cellL_lit, Bool.not_eq_true', Bool.not_eq_false', Bool.not_true, Bool.not_false, Int.reduceLE, Int.reduceLT, Int.reduceNeg, Nat.le_refl, Int.le_refl, Nat.reduceLT, Nat.reduceLeDiff, Nat.reduceEqDiff, D.v.injEq, D.tup.injEq, D.agg.injEq, D.ro.injEq, List.cons.injEq, Value.int.injEq, Value.bool.injEq, pcond_true, pcond_false, NamelessL, Nameless, Nat.reduceMul, Nat.reduceAdd, Nat.zero_add, Int.toNat_natCast]
  have hm : a.length ≤ 9223372036854775807 := hpre
  refine pcond_intro (fun h => ?_) (fun h => ?_)
  · rw [bne_iff_ne] at h
    unfold lEq; rw [decide_eq_false (by omega)]; rfl
  · rw [bne_eq_false_iff_eq] at h
    have hl : a.length = b.length := by omega
    have hd : decide (a.length = b.length) = true := decide_eq_true hl
    refine ⟨⟨hl, Nat.zero_le _, fun j h => absurd h (Nat.not_lt_zero _)⟩, fun _ h => ?_, fun _ h => ?_⟩
    · unfold lEq; rw [h, hd]; rfl
    · unfold lEq; rw [h, hd]; rfl
theorem eqK_pure (a b : List Lnk) (hpre : a.length ≤ maxLen) : PureJ Tryd.prog 59 [.ro a.length (lnksD a), .ro b.length (lnksD b)] (.v (.bool (lEq lnkE a b))) := by
  refine pureJ_of_vcp (call := noCalls) (lp := fun reg__ => bif Nat.beq reg__ 4 then some (lp_eqKLoop a b) else none) (N := 10) T_ok mixed noCalls_ok Tryd.func59 rfl (by decide) (by kernel_rfl) (by kernel_rfl) (of_eq (B := LRuleP Tryd.prog Tryd.f59.ntmps (loopAt ((Tryd.f59.body).getD .skip) 4) (lp_eqKLoop a b) ∧ True) (by kernel_rfl) ⟨eqKLoop_rule a b hpre, trivial⟩) (by first | exact ⟨lnksD_nl a, lnksD_nl b, trivial⟩ | trivial) (by first | exact ⟨lnksD_nl a, lnksD_nl b, trivial⟩ | trivial) ?_
  refine of_eq (B := letI z5 := (D.v (Value.bool (lEq lnkE a b))); letI z0 := (True ∧ (True ∧ ((D.v (Value.bool Bool.false)) = z5))); letI z1 := List.length a; letI z2 := (D.v (Value.int IntKind.i64 ((z1 : Nat) : Int))); letI z3 := List.length b; letI z4 := (D.v (Value.int IntKind.i64 (0 : Int))); letI z6 := ([] : List (Option Blk)); letI z7 := (D.ro z1 (lnksD a)); letI z8 := (D.ro z3 (lnksD b)); (True ∧ (True ∧ (True ∧ (True ∧ (True ∧ (True ∧ (pcond (((z1 : Nat) : Int) != ((z3 : Nat) : Int)) (True ∧ z0) (True ∧ (True ∧ (True ∧ (((z1 = z3) ∧ (((0 : Nat) ≤ z1) ∧ (∀ (j : Nat), ((j < (0 : Nat)) → ((lnkE (List.getD a j (Inhabited.default)) (List.getD b j (Inhabited.default))) = Bool.true))))) ∧ (((Bool.true = Bool.true) ∧ ((z6 = z6) ∧ ((True ∧ (z7 = z7)) ∧ ((True ∧ (z8 = z8)) ∧ ((True ∧ (z2 = z2)) ∧ ((True ∧ (z4 = z4)) ∧ True)))))) ∧ ((Unit → (((allI lnkE a b) = Bool.true) → (True ∧ (True ∧ (True ∧ ((D.v (Value.bool Bool.true)) = z5)))))) ∧ (Unit → (((allI lnkE a b) = Bool.false) → z0)))))))))))))))) (by kernel_rfl) ?_
  simp only [true_and, and_true, and_self, IsInt_lit, IsBool_lit, IsStr_lit, IsSl_lit, cellN_lit, cellL_lit, Bool.not_eq_true', Bool.not_eq_false', Bool.not_true, Bool.not_false, Int.reduceLE, Int.reduceLT, Int.reduceNeg, Nat.le_refl, Int.le_refl, Nat.reduceLT, Nat.reduceLeDiff, Nat.reduceEqDiff, D.v.injEq, D.tup.injEq, D.agg.injEq, D.ro.injEq, List.cons.injEq, Value.int.injEq, Value.bool.injEq, pcond_true, pcond_false, NamelessL, Nameless, Nat.reduceMul, Nat.reduceAdd, Nat.zero_add, Int.toNat_natCast]
  have hm : a.length ≤ 9223372036854775807 := hpre
  refine pcond_intro (fun h => ?_) (fun h => ?_)
  · rw [bne_iff_ne] at h
    unfold lEq; rw [decide_eq_false (by omega)]; rfl
  · rw [bne_eq_false_iff_eq] at h
    have hl : a.length = b.length := by omega
    have hd : decide (a.length = b.length) = true := decide_eq_true hl
    refine ⟨⟨hl, Nat.zero_le _, fun j h => absurd h (Nat.not_lt_zero _)⟩, fun _ h => ?_, fun _ h => ?_⟩
    · unfold lEq; rw [h, hd]; rfl
    · unfold lEq; rw [h, hd]; rfl
def BusOk (n : Nat) (xs : List D) : Prop := (n = (unBus xs).length ∧ xs = busesD (unBus xs)) ∧ (unBus xs).length ≤ maxLen
theorem BusOk_lit (l : List ByteArray) : BusOk l.length (busesD l) = (l.length ≤ maxLen) := by
  unfold BusOk; rw [unBus_D]; simp
def ent_eqS : Ent := fun ds => match ds with
  | [.ro n xs, .ro m ys] => some (.v (.bool (lEq sE (unBus xs) (unBus ys))), BusOk n xs ∧ BusOk m ys)
  | _ => none
theorem ent_eqS_ok : EntOk Tryd.prog 35 ent_eqS := by
  intro ds d c hd hc; unfold ent_eqS at hd; split at hd
  · rename_i n xs m ys
    obtain ⟨rfl, rfl⟩ := pair_inj hd
    obtain ⟨⟨⟨h1, h2⟩, h3⟩, ⟨g1, g2⟩, g3⟩ := hc
    generalize unBus xs = a at *
    generalize unBus ys = b at *
    subst h1; subst h2; subst g1; subst g2
    exact eqS_pure a b h3
  · cases hd
def LinOk (n : Nat) (xs : List D) : Prop := (n = (unLin xs).length ∧ xs = linesD (unLin xs)) ∧ (unLin xs).length ≤ maxLen
theorem LinOk_lit (l : List Lin) : LinOk l.length (linesD l) = (l.length ≤ maxLen) := by
  unfold LinOk; rw [unLin_D]; simp
def ent_eqL : Ent := fun ds => match ds with
  | [.ro n xs, .ro m ys] => some (.v (.bool (lEq linE (unLin xs) (unLin ys))), LinOk n xs ∧ LinOk m ys)
  | _ => none
theorem ent_eqL_ok : EntOk Tryd.prog 36 ent_eqL := by
  intro ds d c hd hc; unfold ent_eqL at hd; split at hd
  · rename_i n xs m ys
    obtain ⟨rfl, rfl⟩ := pair_inj hd
    obtain ⟨⟨⟨h1, h2⟩, h3⟩, ⟨g1, g2⟩, g3⟩ := hc
    generalize unLin xs = a at *
    generalize unLin ys = b at *
    subst h1; subst h2; subst g1; subst g2
    exact eqL_pure a b h3
  · cases hd
def SrcOk (n : Nat) (xs : List D) : Prop := (n = (unSrc xs).length ∧ xs = srcsD (unSrc xs)) ∧ (unSrc xs).length ≤ maxLen
theorem SrcOk_lit (l : List Src) : SrcOk l.length (srcsD l) = (l.length ≤ maxLen) := by
  unfold SrcOk; rw [unSrc_D]; simp
def ent_eqG : Ent := fun ds => match ds with
  | [.ro n xs, .ro m ys] => some (.v (.bool (lEq srcE (unSrc xs) (unSrc ys))), SrcOk n xs ∧ SrcOk m ys)
  | _ => none
theorem ent_eqG_ok : EntOk Tryd.prog 37 ent_eqG := by
  intro ds d c hd hc; unfold ent_eqG at hd; split at hd
  · rename_i n xs m ys
    obtain ⟨rfl, rfl⟩ := pair_inj hd
    obtain ⟨⟨⟨h1, h2⟩, h3⟩, ⟨g1, g2⟩, g3⟩ := hc
    generalize unSrc xs = a at *
    generalize unSrc ys = b at *
    subst h1; subst h2; subst g1; subst g2
    exact eqG_pure a b h3
  · cases hd
def LnkOk (n : Nat) (xs : List D) : Prop := (n = (unLnk xs).length ∧ xs = lnksD (unLnk xs)) ∧ (unLnk xs).length ≤ maxLen
theorem LnkOk_lit (l : List Lnk) : LnkOk l.length (lnksD l) = (l.length ≤ maxLen) := by
  unfold LnkOk; rw [unLnk_D]; simp
def ent_eqK : Ent := fun ds => match ds with
  | [.ro n xs, .ro m ys] => some (.v (.bool (lEq lnkE (unLnk xs) (unLnk ys))), LnkOk n xs ∧ LnkOk m ys)
  | _ => none
theorem ent_eqK_ok : EntOk Tryd.prog 59 ent_eqK := by
  intro ds d c hd hc; unfold ent_eqK at hd; split at hd
  · rename_i n xs m ys
    obtain ⟨rfl, rfl⟩ := pair_inj hd
    obtain ⟨⟨⟨h1, h2⟩, h3⟩, ⟨g1, g2⟩, g3⟩ := hc
    generalize unLnk xs = a at *
    generalize unLnk ys = b at *
    subst h1; subst h2; subst g1; subst g2
    exact eqK_pure a b h3
  · cases hd
def BayOk (n : Nat) (xs : List D) : Prop := (n = (unBay xs).length ∧ xs = baysD (unBay xs)) ∧ (unBay xs).length ≤ maxLen
theorem BayOk_lit (l : List Bay) : BayOk l.length (baysD l) = (l.length ≤ maxLen) := by
  unfold BayOk; rw [unBay_D]; simp
def d_bayL (b : Bay) : List D := [d_s b.n, d_i b.kind, d_i b.of, d_i b.end_, d_i b.z.r, d_i b.z.x, .ro b.ls.length (lnksD b.ls), .v (.bool b.cl), d_i b.ct, d_i b.vt, d_i b.sat, d_i b.tr]
def d_stnL (s : Stn) : List D := [d_s s.n, .ro s.bu.length (busesD s.bu), .ro s.li.length (linesD s.li), .ro s.so.length (srcsD s.so), .ro s.ba.length (baysD s.ba)]
end Go.Proofs.YtbgnjnjnlkjicaaDoor
end
