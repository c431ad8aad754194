import Derived.Test.YthnhfkpihbjddaaZKw19
section
namespace Go.Proofs.Ythnhfkpihbjddaa
open Go.VD
set_option linter.unusedVariables false
set_option linter.unusedSimpArgs false
set_option maxRecDepth 100000
def lp_cutE (full : Bool) (zs : List Nat) (n : Nat) : LoopO := loopRuleD (α := Nat) (β := Unit) (fun k => k ≤ n ∧ tn zs k = tn zs n)
  (fun k => [(0, d_sE n), (3, .v (.int .i64 (k : Int)))])
  (fun k => d_zb full zs) n (fun _ => True) (fun _ => (.exit 0, [(0, d_sE n), (3, .v (.int .i64 (tn zs n : Nat)))], d_zb full zs))
theorem cutE_rule (full : Bool) (zs : List Nat) (n : Nat) (hpre : n ≤ zs.length ∧ zs.length ≤ 1000000) : LRule Try.prog Try.f89.ntmps (loopAt ((Try.f89.body).getD .skip) 2) (lp_cutE full zs n) := by
  refine lruleD_of (α := Nat) (β := Unit) (call := noCalls) (lp := fun _ => none) (N := 10) T_ok mixed noCalls_ok (fun k => k) (by kernel_rfl) (LpAll.none _) ?_
  intro x hJ
  refine of_eq (B := letI z7 := (Exit.exit (0 : Nat)); letI z2 := (Option.some (D.sl (0 : Nat) (0 : Nat) n (Cap.toEnd (1 : Nat)))); letI z6 := ((x : Nat) : Int); letI z3 := (Option.some (Blk.mk (41 : Nat) (u32s zs) full)); letI z0 := (True ∧ ((z7 = z7) ∧ (((z2 = z2) ∧ (((Option.some (D.v (Value.int IntKind.i64 z6))) = (Option.some (D.v (Value.int IntKind.i64 (((tn zs n) : Nat) : Int))))) ∧ True)) ∧ ([z3] = [z3])))); letI z1 := (IntKind.wrap IntKind.i64 (z6 - (1 : Int))); letI z5 := ((0 : Nat) + ((Int.toNat z1) * (1 : Nat))); letI z4 := (List.getD (u32s zs) z5 (Inhabited.default)); (True ∧ (True ∧ (True ∧ (pcond (Decidable.decide ((0 : Int) < z6)) (True ∧ (True ∧ (True ∧ ((((0 : Int) ≤ z1) ∧ (z1 < ((n : Nat) : Int))) ∧ (((z5 < (List.length (u32s zs))) ∧ (IsInt IntKind.u32 z4)) ∧ (True ∧ (True ∧ (pcond ((cellInt z4) == (0 : Int)) (True ∧ (True ∧ (True ∧ (∃ (y : Nat), ((y < x) ∧ (((y ≤ n) ∧ ((tn zs y) = (tn zs n))) ∧ (((z2 = z2) ∧ (((Option.some (D.v (Value.int IntKind.i64 z1))) = (Option.some (D.v (Value.int IntKind.i64 ((y : Nat) : Int))))) ∧ True)) ∧ ([z3] = [z3])))))))) (∃ (r : Unit), z0))))))))) (True ∧ (∃ (r : Unit), z0))))))) (by kernel_rfl) ?_
  obtain ⟨hl, hb⟩ := hpre
  obtain ⟨hx, ht⟩ := hJ
  simp only [true_and, and_true, and_self, IsInt_lit, IsBool_lit, IsStr_lit, Bool.not_eq_true', Bool.not_eq_false', Bool.not_true, Bool.not_false, Int.reduceLE, Int.reduceLT, Int.reduceNeg, Nat.le_refl, Int.le_refl, Nat.reduceLT, Nat.reduceLeDiff, Nat.reduceEqDiff, D.v.injEq, D.tup.injEq, D.agg.injEq, D.ro.injEq, List.cons.injEq, Value.int.injEq, Value.bool.injEq, pcond_true, pcond_false, NamelessL, Nameless, Nat.reduceMul, Nat.reduceAdd, Nat.zero_add, Int.toNat_natCast]
  refine pcond_intro (fun h => ?_) (fun h => ?_)
  · simp only [decide_eq_true_eq] at h
    obtain ⟨j, rfl⟩ : ∃ j, x = j + 1 := ⟨x - 1, by omega⟩
    have e : IntKind.i64.wrap (((j + 1 : Nat) : Int) - 1) = (j : Int) := by rw [wrap_i64_of (by omega) (by omega)]; omega
    simp only [e, Int.toNat_natCast, Nat.mul_one, u32s_cell, u32s_length, u32s_isInt _ _ (show j < zs.length by omega)]
    refine ⟨⟨by omega, by omega⟩, ⟨by omega, trivial⟩, pcond_intro (fun h2 => ⟨j, by omega, ⟨by omega, ?_⟩, rfl⟩) (fun h2 => ⟨(), ?_⟩)⟩
    · rw [← ht]; simp at h2; simp [tn, h2]
    · have : tn zs n = j + 1 := by rw [← ht]; simp at h2; simp [tn, h2]
      simp [this]
  · have : tn zs n = x := by rw [← ht]; simp at h; subst h; rfl
    refine ⟨(), ?_⟩
    simp [this]
theorem cutE_nil (full : Bool) (zs : List Nat) (n : Nat) (hpre : n ≤ zs.length ∧ zs.length ≤ 1000000) (h0 : tn zs n = 0) : CallJ Try.prog 89 [d_sE n] (d_zb full zs) (.v (.slice none 0 0)) (d_zb full zs) := by
  refine callJ_same (call := noCalls) (lp := fun k' => bif Nat.beq k' 2 then some (lp_cutE full zs n) else none) (N := 10) T_ok mixed noCalls_ok Try.func89 rfl (by decide) (by kernel_rfl) (by kernel_rfl)
    (of_eq (B := LRule Try.prog Try.f89.ntmps (loopAt ((Try.f89.body).getD .skip) 2) (lp_cutE full zs n) ∧ True) (by kernel_rfl) ⟨cutE_rule full zs n hpre, trivial⟩) ?_
  refine of_eq (B := letI z0 := (Option.some (Blk.mk (41 : Nat) (u32s zs) full)); letI z1 := (((tn zs n) : Nat) : Int); letI z2 := (D.v (Value.slice (Option.none) (0 : Nat) (0 : Nat))); letI z3 := (Option.some (D.sl (0 : Nat) (0 : Nat) n (Cap.toEnd (1 : Nat)))); letI z4 := (Option.some (D.v (Value.int IntKind.i64 ((n : Nat) : Int)))); letI z5 := ((Int.toNat z1) - (0 : Nat)); (True ∧ (True ∧ (True ∧ (True ∧ (((n ≤ n) ∧ ((tn zs n) = (tn zs n))) ∧ (((z3 = z3) ∧ ((z4 = z4) ∧ True)) ∧ (([z0] = [z0]) ∧ (Unit → (True → (True ∧ (True ∧ (pcond (z1 == (0 : Int)) (True ∧ (True ∧ ((z2 = z2) ∧ ([z0] = [z0])))) (True ∧ (True ∧ (True ∧ (((True ∧ ((((0 : Int) ≤ z1) ∧ (z1 ≤ (((Int.toNat z1) : Nat) : Int))) ∧ (((0 : Int) ≤ z1) ∧ ((z1 ≤ ((n : Nat) : Int)) ∧ (Bool.true = Bool.true))))) ∧ ((1 : Nat) = (1 : Nat))) ∧ (True ∧ (True ∧ (((D.sl (0 : Nat) (0 : Nat) z5 (Cap.exact z5 (1 : Nat))) = z2) ∧ ([z0] = [z0]))))))))))))))))))))) (by kernel_rfl) ?_
  simp only [true_and, and_true, and_self, IsInt_lit, IsBool_lit, IsStr_lit, Bool.not_eq_true', Bool.not_eq_false', Bool.not_true, Bool.not_false, Int.reduceLE, Int.reduceLT, Int.reduceNeg, Nat.le_refl, Int.le_refl, Nat.reduceLT, Nat.reduceLeDiff, Nat.reduceEqDiff, D.v.injEq, D.tup.injEq, D.agg.injEq, D.ro.injEq, List.cons.injEq, Value.int.injEq, Value.bool.injEq, pcond_true, pcond_false, NamelessL, Nameless, Nat.reduceMul, Nat.reduceAdd, Nat.zero_add, Int.toNat_natCast, h0]
  exact fun _ _ => pcond_intro (fun _ => trivial) (fun h => by simp at h)
theorem cutE_some (full : Bool) (zs : List Nat) (n : Nat) (hpre : n ≤ zs.length ∧ zs.length ≤ 1000000) (h0 : 0 < tn zs n) : CallJ Try.prog 89 [d_sE n] (d_zb full zs) (.sl 0 0 (tn zs n) (.exact (tn zs n) 1)) (d_zb full zs) := by
  refine callJ_same (call := noCalls) (lp := fun k' => bif Nat.beq k' 2 then some (lp_cutE full zs n) else none) (N := 10) T_ok mixed noCalls_ok Try.func89 rfl (by decide) (by kernel_rfl) (by kernel_rfl)
    (of_eq (B := LRule Try.prog Try.f89.ntmps (loopAt ((Try.f89.body).getD .skip) 2) (lp_cutE full zs n) ∧ True) (by kernel_rfl) ⟨cutE_rule full zs n hpre, trivial⟩) ?_
  refine of_eq (B := letI z0 := (Option.some (Blk.mk (41 : Nat) (u32s zs) full)); letI z1 := (((tn zs n) : Nat) : Int); letI z2 := (D.sl (0 : Nat) (0 : Nat) (tn zs n) (Cap.exact (tn zs n) (1 : Nat))); letI z3 := (Option.some (D.sl (0 : Nat) (0 : Nat) n (Cap.toEnd (1 : Nat)))); letI z4 := (Option.some (D.v (Value.int IntKind.i64 ((n : Nat) : Int)))); letI z5 := ((Int.toNat z1) - (0 : Nat)); (True ∧ (True ∧ (True ∧ (True ∧ (((n ≤ n) ∧ ((tn zs n) = (tn zs n))) ∧ (((z3 = z3) ∧ ((z4 = z4) ∧ True)) ∧ (([z0] = [z0]) ∧ (Unit → (True → (True ∧ (True ∧ (pcond (z1 == (0 : Int)) (True ∧ (True ∧ (((D.v (Value.slice (Option.none) (0 : Nat) (0 : Nat))) = z2) ∧ ([z0] = [z0])))) (True ∧ (True ∧ (True ∧ (((True ∧ ((((0 : Int) ≤ z1) ∧ (z1 ≤ (((Int.toNat z1) : Nat) : Int))) ∧ (((0 : Int) ≤ z1) ∧ ((z1 ≤ ((n : Nat) : Int)) ∧ (Bool.true = Bool.true))))) ∧ ((1 : Nat) = (1 : Nat))) ∧ (True ∧ (True ∧ (((D.sl (0 : Nat) (0 : Nat) z5 (Cap.exact z5 (1 : Nat))) = z2) ∧ ([z0] = [z0]))))))))))))))))))))) (by kernel_rfl) ?_
  have ht := tn_le zs n
  simp only [true_and, and_true, and_self, IsInt_lit, IsBool_lit, IsStr_lit, Bool.not_eq_true', Bool.not_eq_false', Bool.not_true, Bool.not_false, Int.reduceLE, Int.reduceLT, Int.reduceNeg, Nat.le_refl, Int.le_refl, Nat.reduceLT, Nat.reduceLeDiff, Nat.reduceEqDiff, D.v.injEq, D.tup.injEq, D.agg.injEq, D.ro.injEq, List.cons.injEq, Value.int.injEq, Value.bool.injEq, pcond_true, pcond_false, NamelessL, Nameless, Nat.reduceMul, Nat.reduceAdd, Nat.zero_add, Int.toNat_natCast]
  intro _ _
  refine pcond_intro (fun h => ?_) (fun h => ⟨⟨by omega, by omega, by omega⟩, rfl⟩)
  simp at h; omega
def lp_cutX (full : Bool) (zs : List Nat) (n : Nat) : LoopO := loopRuleD (α := Nat) (β := Unit) (fun k => k ≤ n ∧ tn zs k = tn zs n)
  (fun k => [(0, d_sX n), (3, .v (.int .i64 (k : Int)))])
  (fun k => d_zb full zs) n (fun _ => True) (fun _ => (.exit 0, [(0, d_sX n), (3, .v (.int .i64 (tn zs n : Nat)))], d_zb full zs))
theorem cutX_rule (full : Bool) (zs : List Nat) (n : Nat) (hpre : n ≤ zs.length ∧ zs.length ≤ 1000000) : LRule Try.prog Try.f89.ntmps (loopAt ((Try.f89.body).getD .skip) 2) (lp_cutX full zs n) := by
  refine lruleD_of (α := Nat) (β := Unit) (call := noCalls) (lp := fun _ => none) (N := 10) T_ok mixed noCalls_ok (fun k => k) (by kernel_rfl) (LpAll.none _) ?_
  intro x hJ
  refine of_eq (B := letI z7 := (Exit.exit (0 : Nat)); letI z2 := (Option.some (D.sl (0 : Nat) (0 : Nat) n (Cap.exact n (1 : Nat)))); letI z6 := ((x : Nat) : Int); letI z3 := (Option.some (Blk.mk (41 : Nat) (u32s zs) full)); letI z0 := (True ∧ ((z7 = z7) ∧ (((z2 = z2) ∧ (((Option.some (D.v (Value.int IntKind.i64 z6))) = (Option.some (D.v (Value.int IntKind.i64 (((tn zs n) : Nat) : Int))))) ∧ True)) ∧ ([z3] = [z3])))); letI z1 := (IntKind.wrap IntKind.i64 (z6 - (1 : Int))); letI z5 := ((0 : Nat) + ((Int.toNat z1) * (1 : Nat))); letI z4 := (List.getD (u32s zs) z5 (Inhabited.default)); (True ∧ (True ∧ (True ∧ (pcond (Decidable.decide ((0 : Int) < z6)) (True ∧ (True ∧ (True ∧ ((((0 : Int) ≤ z1) ∧ (z1 < ((n : Nat) : Int))) ∧ (((z5 < (List.length (u32s zs))) ∧ (IsInt IntKind.u32 z4)) ∧ (True ∧ (True ∧ (pcond ((cellInt z4) == (0 : Int)) (True ∧ (True ∧ (True ∧ (∃ (y : Nat), ((y < x) ∧ (((y ≤ n) ∧ ((tn zs y) = (tn zs n))) ∧ (((z2 = z2) ∧ (((Option.some (D.v (Value.int IntKind.i64 z1))) = (Option.some (D.v (Value.int IntKind.i64 ((y : Nat) : Int))))) ∧ True)) ∧ ([z3] = [z3])))))))) (∃ (r : Unit), z0))))))))) (True ∧ (∃ (r : Unit), z0))))))) (by kernel_rfl) ?_
  obtain ⟨hl, hb⟩ := hpre
  obtain ⟨hx, ht⟩ := hJ
  simp only [true_and, and_true, and_self, IsInt_lit, IsBool_lit, IsStr_lit, Bool.not_eq_true', Bool.not_eq_false', Bool.not_true, Bool.not_false, Int.reduceLE, Int.reduceLT, Int.reduceNeg, Nat.le_refl, Int.le_refl, Nat.reduceLT, Nat.reduceLeDiff, Nat.reduceEqDiff, D.v.injEq, D.tup.injEq, D.agg.injEq, D.ro.injEq, List.cons.injEq, Value.int.injEq, Value.bool.injEq, pcond_true, pcond_false, NamelessL, Nameless, Nat.reduceMul, Nat.reduceAdd, Nat.zero_add, Int.toNat_natCast]
  refine pcond_intro (fun h => ?_) (fun h => ?_)
  · simp only [decide_eq_true_eq] at h
    obtain ⟨j, rfl⟩ : ∃ j, x = j + 1 := ⟨x - 1, by omega⟩
    have e : IntKind.i64.wrap (((j + 1 : Nat) : Int) - 1) = (j : Int) := by rw [wrap_i64_of (by omega) (by omega)]; omega
    simp only [e, Int.toNat_natCast, Nat.mul_one, u32s_cell, u32s_length, u32s_isInt _ _ (show j < zs.length by omega)]
    refine ⟨⟨by omega, by omega⟩, ⟨by omega, trivial⟩, pcond_intro (fun h2 => ⟨j, by omega, ⟨by omega, ?_⟩, rfl⟩) (fun h2 => ⟨(), ?_⟩)⟩
    · rw [← ht]; simp at h2; simp [tn, h2]
    · have : tn zs n = j + 1 := by rw [← ht]; simp at h2; simp [tn, h2]
      simp [this]
  · have : tn zs n = x := by rw [← ht]; simp at h; subst h; rfl
    refine ⟨(), ?_⟩
    simp [this]
theorem cutX_nil (full : Bool) (zs : List Nat) (n : Nat) (hpre : n ≤ zs.length ∧ zs.length ≤ 1000000) (h0 : tn zs n = 0) : CallJ Try.prog 89 [d_sX n] (d_zb full zs) (.v (.slice none 0 0)) (d_zb full zs) := by
  refine callJ_same (call := noCalls) (lp := fun k' => bif Nat.beq k' 2 then some (lp_cutX full zs n) else none) (N := 10) T_ok mixed noCalls_ok Try.func89 rfl (by decide) (by kernel_rfl) (by kernel_rfl)
    (of_eq (B := LRule Try.prog Try.f89.ntmps (loopAt ((Try.f89.body).getD .skip) 2) (lp_cutX full zs n) ∧ True) (by kernel_rfl) ⟨cutX_rule full zs n hpre, trivial⟩) ?_
  refine of_eq (B := letI z0 := (Option.some (Blk.mk (41 : Nat) (u32s zs) full)); letI z1 := (((tn zs n) : Nat) : Int); letI z2 := (D.v (Value.slice (Option.none) (0 : Nat) (0 : Nat))); letI z3 := (Option.some (D.sl (0 : Nat) (0 : Nat) n (Cap.exact n (1 : Nat)))); letI z4 := (Option.some (D.v (Value.int IntKind.i64 ((n : Nat) : Int)))); letI z5 := ((Int.toNat z1) - (0 : Nat)); (True ∧ (True ∧ (True ∧ (True ∧ (((n ≤ n) ∧ ((tn zs n) = (tn zs n))) ∧ (((z3 = z3) ∧ ((z4 = z4) ∧ True)) ∧ (([z0] = [z0]) ∧ (Unit → (True → (True ∧ (True ∧ (pcond (z1 == (0 : Int)) (True ∧ (True ∧ ((z2 = z2) ∧ ([z0] = [z0])))) (True ∧ (True ∧ (True ∧ (((True ∧ ((((0 : Int) ≤ z1) ∧ (z1 ≤ (((Int.toNat z1) : Nat) : Int))) ∧ (((0 : Int) ≤ z1) ∧ ((z1 ≤ ((n : Nat) : Int)) ∧ (Bool.true = Bool.true))))) ∧ ((1 : Nat) = (1 : Nat))) ∧ (True ∧ (True ∧ (((D.sl (0 : Nat) (0 : Nat) z5 (Cap.exact z5 (1 : Nat))) = z2) ∧ ([z0] = [z0]))))))))))))))))))))) (by kernel_rfl) ?_
  simp only [true_and, and_true, and_self, IsInt_lit, IsBool_lit, IsStr_lit, Bool.not_eq_true', Bool.not_eq_false', Bool.not_true, Bool.not_false, Int.reduceLE, Int.reduceLT, Int.reduceNeg, Nat.le_refl, Int.le_refl, Nat.reduceLT, Nat.reduceLeDiff, Nat.reduceEqDiff, D.v.injEq, D.tup.injEq, D.agg.injEq, D.ro.injEq, List.cons.injEq, Value.int.injEq, Value.bool.injEq, pcond_true, pcond_false, NamelessL, Nameless, Nat.reduceMul, Nat.reduceAdd, Nat.zero_add, Int.toNat_natCast, h0]
  exact fun _ _ => pcond_intro (fun _ => trivial) (fun h => by simp at h)
theorem cutX_some (full : Bool) (zs : List Nat) (n : Nat) (hpre : n ≤ zs.length ∧ zs.length ≤ 1000000) (h0 : 0 < tn zs n) : CallJ Try.prog 89 [d_sX n] (d_zb full zs) (.sl 0 0 (tn zs n) (.exact (tn zs n) 1)) (d_zb full zs) := by
  refine callJ_same (call := noCalls) (lp := fun k' => bif Nat.beq k' 2 then some (lp_cutX full zs n) else none) (N := 10) T_ok mixed noCalls_ok Try.func89 rfl (by decide) (by kernel_rfl) (by kernel_rfl)
    (of_eq (B := LRule Try.prog Try.f89.ntmps (loopAt ((Try.f89.body).getD .skip) 2) (lp_cutX full zs n) ∧ True) (by kernel_rfl) ⟨cutX_rule full zs n hpre, trivial⟩) ?_
  refine of_eq (B := letI z0 := (Option.some (Blk.mk (41 : Nat) (u32s zs) full)); letI z1 := (((tn zs n) : Nat) : Int); letI z2 := (D.sl (0 : Nat) (0 : Nat) (tn zs n) (Cap.exact (tn zs n) (1 : Nat))); letI z3 := (Option.some (D.sl (0 : Nat) (0 : Nat) n (Cap.exact n (1 : Nat)))); letI z4 := (Option.some (D.v (Value.int IntKind.i64 ((n : Nat) : Int)))); letI z5 := ((Int.toNat z1) - (0 : Nat)); (True ∧ (True ∧ (True ∧ (True ∧ (((n ≤ n) ∧ ((tn zs n) = (tn zs n))) ∧ (((z3 = z3) ∧ ((z4 = z4) ∧ True)) ∧ (([z0] = [z0]) ∧ (Unit → (True → (True ∧ (True ∧ (pcond (z1 == (0 : Int)) (True ∧ (True ∧ (((D.v (Value.slice (Option.none) (0 : Nat) (0 : Nat))) = z2) ∧ ([z0] = [z0])))) (True ∧ (True ∧ (True ∧ (((True ∧ ((((0 : Int) ≤ z1) ∧ (z1 ≤ (((Int.toNat z1) : Nat) : Int))) ∧ (((0 : Int) ≤ z1) ∧ ((z1 ≤ ((n : Nat) : Int)) ∧ (Bool.true = Bool.true))))) ∧ ((1 : Nat) = (1 : Nat))) ∧ (True ∧ (True ∧ (((D.sl (0 : Nat) (0 : Nat) z5 (Cap.exact z5 (1 : Nat))) = z2) ∧ ([z0] = [z0]))))))))))))))))))))) (by kernel_rfl) ?_
  have ht := tn_le zs n
  simp only [true_and, and_true, and_self, IsInt_lit, IsBool_lit, IsStr_lit, Bool.not_eq_true', Bool.not_eq_false', Bool.not_true, Bool.not_false, Int.reduceLE, Int.reduceLT, Int.reduceNeg, Nat.le_refl, Int.le_refl, Nat.reduceLT, Nat.reduceLeDiff, Nat.reduceEqDiff, D.v.injEq, D.tup.injEq, D.agg.injEq, D.ro.injEq, List.cons.injEq, Value.int.injEq, Value.bool.injEq, pcond_true, pcond_false, NamelessL, Nameless, Nat.reduceMul, Nat.reduceAdd, Nat.zero_add, Int.toNat_natCast]
  intro _ _
  refine pcond_intro (fun h => ?_) (fun h => ⟨⟨by omega, by omega, by omega⟩, rfl⟩)
  simp at h; omega
def ents_cut : EntS := fun off n c plain blk => match c, plain, blk with
  | .toEnd 1, [], ⟨ty, cs, full⟩ => some (tn (unu cs) n, ((ty = 41 ∧ off = 0) ∧ cs = u32s (unu cs)) ∧ n ≤ (unu cs).length ∧ (unu cs).length ≤ 1000000)
  | .exact cap 1, [], ⟨ty, cs, full⟩ => some (tn (unu cs) n, ((ty = 41 ∧ off = 0) ∧ cs = u32s (unu cs) ∧ cap = n) ∧ n ≤ (unu cs).length ∧ (unu cs).length ≤ 1000000)
  | _, _, _ => none
theorem ents_cut_ok : EntSOk Try.prog 89 ents_cut := by
  intro off n c plain blk m p h hp
  unfold ents_cut at h
  split at h
  · rename_i ty cs full
    simp only [Option.some.injEq, Prod.mk.injEq] at h
    obtain ⟨rfl, rfl⟩ := h
    obtain ⟨⟨⟨rfl, rfl⟩, hcs⟩, hl⟩ := hp
    generalize unu cs = zs at *
    subst hcs
    exact ⟨by simp [NamelessL], u32s_nameless _, fun h => cutE_nil full zs n hl h, fun h => cutE_some full zs n hl h⟩
  · rename_i cap ty cs full
    simp only [Option.some.injEq, Prod.mk.injEq] at h
    obtain ⟨rfl, rfl⟩ := h
    obtain ⟨⟨⟨rfl, rfl⟩, hcs, rfl⟩, hl⟩ := hp
    generalize unu cs = zs at *
    subst hcs
    exact ⟨by simp [NamelessL], u32s_nameless _, fun h => cutX_nil full zs _ hl h, fun h => cutX_some full zs _ hl h⟩
  · cases h
theorem kclone (xs : List Nat) (hpre : 0 < xs.length ∧ xs.length ≤ 1000000) : CallJ Try.prog 87 [.ro xs.length (u32s xs)] [] (.sl 0 0 xs.length (.toEnd 1)) [some ⟨41, u32s xs, false⟩] := by
  refine callJ_second (call := noCalls) (lp := fun _ => none) (N := 10) T_ok mixed noCalls_ok Try.func87 rfl (by decide) (by kernel_rfl) (by kernel_rfl) (LpAll.none _) (u32s_nameless _) ?_
  refine of_eq (B := letI z0 := List.length xs; letI z1 := ((0 : Nat) + z0); letI z2 := (9223372036854775807 : Nat); letI z3 := (Cap.toEnd (1 : Nat)); (True ∧ (True ∧ (((0 : Nat) < z0) ∧ ((((0 : Nat) ≤ (16777216 : Nat)) ∧ ((0 : Nat) ≤ z2)) ∧ (True ∧ ((((z0 * (1 : Nat)) ≤ (List.length (u32s xs))) ∧ (((22 : Nat) = (22 : Nat)) ∧ (((1 : Nat) = (1 : Nat)) ∧ (((41 : Nat) = (41 : Nat)) ∧ (((0 : Nat) ≤ (0 : Nat)) ∧ (((0 : Nat) < (1 : Nat)) ∧ ((z1 ≤ z2) ∧ ((z1 * (4 : Nat)) ≤ (140737488355328 : Nat))))))))) ∧ (True ∧ (True ∧ (((D.sl (1 : Nat) (0 : Nat) z1 z3) = (D.sl (1 : Nat) (0 : Nat) z0 z3)) ∧ ([(Option.none), (Option.some (Blk.mk (41 : Nat) (([] : List D) ++ (List.take (z0 * (1 : Nat)) (u32s xs))) Bool.false))] = [(Option.none), (Option.some (Blk.mk (41 : Nat) (u32s xs) Bool.false))]))))))))))) (by kernel_rfl) ?_
  simp only [true_and, and_true, and_self, IsInt_lit, IsBool_lit, IsStr_lit, Bool.not_eq_true', Bool.not_eq_false', Bool.not_true, Bool.not_false, Int.reduceLE, Int.reduceLT, Int.reduceNeg, Nat.le_refl, Int.le_refl, Nat.reduceLT, Nat.reduceLeDiff, Nat.reduceEqDiff, D.v.injEq, D.tup.injEq, D.agg.injEq, D.ro.injEq, List.cons.injEq, Value.int.injEq, Value.bool.injEq, pcond_true, pcond_false, NamelessL, Nameless, Nat.reduceMul, Nat.reduceAdd, Nat.zero_add, Int.toNat_natCast, Nat.mul_one, u32s_take, u32s_length, List.take_length, List.nil_append]
  exact ⟨hpre.1, by omega, by omega⟩
def entk_clone : EntK := fun ds => match ds with
  | [.ro n cs] => some (n, .toEnd 1, ⟨41, cs, false⟩, (cs = u32s (unu cs) ∧ n = (unu cs).length) ∧ 0 < (unu cs).length ∧ (unu cs).length ≤ 1000000)
  | _ => none
theorem entk_clone_ok : EntKOk Try.prog 87 entk_clone := by
  intro ds n c blk p h hp
  unfold entk_clone at h
  split at h
  · rename_i n cs
    simp only [Option.some.injEq, Prod.mk.injEq] at h
    obtain ⟨rfl, rfl, rfl, rfl⟩ := h
    obtain ⟨⟨hcs, hn⟩, hl⟩ := hp
    generalize unu cs = xs at *
    subst hcs; subst hn
    exact ⟨kclone xs hl, by simp [NamelessL, Nameless, u32s_nameless], u32s_nameless _⟩
  · cases h
def d_bb (full : Bool) (o : List Nat) : Heap := [some ⟨5, u8s o, full⟩]
def lp_rev (full : Bool) (xs ys : List Nat) : LoopO := loopRuleD (α := Nat) (β := Unit) (fun i => i ≤ xs.length)
  (fun i => [(0, d_sE xs.length), (2, .v (.int .i64 (i : Int))), (3, .v (.int .i64 ((xs.length : Int) - 1 - i)))])
  (fun i => d_bb full (revT xs i ++ ys)) 0 (fun _ => True) (fun _ => (.exit 0, [], d_bb full (xs.reverse ++ ys)))
theorem rev_rule (full : Bool) (xs ys : List Nat) (hpre : xs.length ≤ 1000000) : LRule Try.prog Try.f90.ntmps (loopAt ((Try.f90.body).getD .skip) 1) (lp_rev full xs ys) := by
  refine lruleD_of (α := Nat) (β := Unit) (call := noCalls) (lp := fun _ => none) (N := 10) T_ok mixed noCalls_ok (fun i => xs.length - i) (by kernel_rfl) (LpAll.none _) ?_
  intro i hJ
  refine of_eq (B := letI z8 := List.length xs; letI z4 := ((z8 : Nat) : Int); letI z5 := ((i : Nat) : Int); letI z0 := ((z4 - (1 : Int)) - z5); letI z1 := ((0 : Nat) + ((Int.toNat z5) * (1 : Nat))); letI z2 := (u8s ((revT xs i) ++ ys)); letI z3 := ((0 : Nat) + ((Int.toNat z0) * (1 : Nat))); letI z9 := (List.getD z2 z3 (Inhabited.default)); letI z6 := (List.set z2 z1 (D.v (Value.int IntKind.u8 (cellInt z9)))); letI z7 := (Option.some (D.sl (0 : Nat) (0 : Nat) z8 (Cap.toEnd (1 : Nat)))); letI z10 := (List.getD z2 z1 (Inhabited.default)); letI z11 := (((0 : Int) ≤ z0) ∧ (z0 < z4)); letI z12 := (((0 : Int) ≤ z5) ∧ (z5 < z4)); letI z13 := List.length z2; letI z14 := ((1 : Nat) = (1 : Nat)); letI z15 := (Exit.exit (0 : Nat)); (True ∧ (True ∧ (True ∧ (pcond (Decidable.decide (z5 < z0)) (True ∧ (True ∧ (True ∧ (True ∧ (True ∧ (True ∧ (z11 ∧ (((z3 < z13) ∧ (IsInt IntKind.u8 z9)) ∧ (True ∧ (True ∧ (z12 ∧ (((z1 < z13) ∧ (IsInt IntKind.u8 z10)) ∧ (z12 ∧ ((z14 ∧ ((z1 + (1 : Nat)) ≤ z13)) ∧ (z11 ∧ ((z14 ∧ ((z3 + (1 : Nat)) ≤ (List.length z6))) ∧ ((Bool.true = Bool.true) ∧ (True ∧ (True ∧ (True ∧ (True ∧ (True ∧ (True ∧ (∃ (y : Nat), (((z8 - y) < (z8 - i)) ∧ ((y ≤ z8) ∧ (((z7 = z7) ∧ (((Option.some (D.v (Value.int IntKind.i64 (IntKind.wrap IntKind.i64 (z5 + (1 : Int)))))) = (Option.some (D.v (Value.int IntKind.i64 ((y : Nat) : Int))))) ∧ (((Option.some (D.v (Value.int IntKind.i64 (IntKind.wrap IntKind.i64 (z0 - (1 : Int)))))) = (Option.some (D.v (Value.int IntKind.i64 ((z4 - (1 : Int)) - ((y : Nat) : Int)))))) ∧ True))) ∧ ([(Option.some (Blk.mk (5 : Nat) (List.set z6 z3 (D.v (Value.int IntKind.u8 (cellInt z10)))) full))] = [(Option.some (Blk.mk (5 : Nat) (u8s ((revT xs y) ++ ys)) full))])))))))))))))))))))))))))))) (∃ (r : Unit), (True ∧ ((z15 = z15) ∧ (True ∧ ([(Option.some (Blk.mk (5 : Nat) z2 full))] = [(Option.some (Blk.mk (5 : Nat) (u8s ((List.reverse xs) ++ ys)) full))])))))))))) (by kernel_rfl) ?_
  simp only [true_and, and_true, and_self, IsInt_lit, IsBool_lit, IsStr_lit, Bool.not_eq_true', Bool.not_eq_false', Bool.not_true, Bool.not_false, Int.reduceLE, Int.reduceLT, Int.reduceNeg, Nat.le_refl, Int.le_refl, Nat.reduceLT, Nat.reduceLeDiff, Nat.reduceEqDiff, D.v.injEq, D.tup.injEq, D.agg.injEq, D.ro.injEq, List.cons.injEq, Value.int.injEq, Value.bool.injEq, pcond_true, pcond_false, NamelessL, Nameless, Nat.reduceMul, Nat.reduceAdd, Nat.zero_add, Int.toNat_natCast]
  refine pcond_intro (fun h => ?_) (fun h => ?_)
  · simp only [decide_eq_true_eq] at h
    have hs := revT_step (xs := xs) (i := i) (by omega)
    have e0 : ((xs.length : Int) - 1 - (i : Int)).toNat = xs.length - 1 - i := by omega
    have hl := revT_length xs i
    have g1 : ∀ k, k < xs.length → (revT xs i ++ ys).getD k 0 = (revT xs i).getD k 0 := fun k hk => by
      rw [List.getD_eq_getElem?_getD, List.getElem?_append_left (by omega), ← List.getD_eq_getElem?_getD]
    have s1 : ∀ (zs : List Nat) k x, zs.length = xs.length → k < xs.length → (zs ++ ys).set k x = zs.set k x ++ ys := fun zs k x hz hk => List.set_append_left _ _ (by omega)
    have hla : (revT xs i ++ ys).length = xs.length + ys.length := by simp [hl]
    simp only [e0, Nat.mul_one, u8s_length, u8s_cell, u8s_isInt (revT xs i ++ ys) i (by omega), u8s_isInt (revT xs i ++ ys) (xs.length - 1 - i) (by omega), g1 i (by omega), g1 (xs.length - 1 - i) (by omega), u8s_put, s1 _ i _ hl (by omega), s1 ((revT xs i).set i ((revT xs i).getD (xs.length - 1 - i) 0)) (xs.length - 1 - i) _ (by rw [List.length_set]; exact hl) (by omega), hs, and_true]
    refine ⟨by omega, by omega, by omega, by omega, by omega, by omega, by omega, by simp [hl]; omega, i + 1, by omega, by omega, ⟨?_, ?_⟩, rfl⟩
    · rw [wrap_i64_of (by omega) (by omega)]; rfl
    · rw [wrap_i64_of (by omega) (by omega)]; congr 3; omega
  · simp only [decide_eq_false_iff_not] at h
    refine ⟨(), ?_⟩
    rw [revT_end (by omega)]
theorem rev_mut (full : Bool) (xs ys : List Nat) (hpre : xs.length ≤ 1000000) : MutJ Try.prog 90 0 xs.length (.toEnd 1) [] ⟨5, u8s (xs ++ ys), full⟩ (.tup []) ⟨5, u8s (xs.reverse ++ ys), full⟩ := by
  refine mutJ_of_vcx (call := noCalls) (lp := fun k' => bif Nat.beq k' 1 then some (lp_rev full xs ys) else none) (N := 10) T_ok mixed noCalls_ok Try.func90 rfl (by decide) (by kernel_rfl) (by kernel_rfl)
    (of_eq (B := LRule Try.prog Try.f90.ntmps (loopAt ((Try.f90.body).getD .skip) 1) (lp_rev full xs ys) ∧ True) (by kernel_rfl) ⟨rev_rule full xs ys hpre, trivial⟩) (by simp [NamelessL]) (by simp [Nameless, NamelessL]) (u8s_nameless _) (u8s_nameless _) ?_
  refine of_eq (B := letI z4 := List.length xs; letI z0 := (Option.some (D.sl (0 : Nat) (0 : Nat) z4 (Cap.toEnd (1 : Nat)))); letI z1 := (Option.some (Blk.mk (5 : Nat) (u8s ((List.reverse xs) ++ ys)) full)); letI z2 := (Option.some (D.v (Value.int IntKind.i64 (0 : Int)))); letI z3 := (((z4 : Nat) : Int) - (1 : Int)); letI z5 := (D.tup ([] : List D)); (True ∧ (True ∧ (True ∧ (True ∧ (True ∧ (((0 : Nat) ≤ z4) ∧ (((z0 = z0) ∧ ((z2 = z2) ∧ (((Option.some (D.v (Value.int IntKind.i64 (IntKind.wrap IntKind.i64 z3)))) = (Option.some (D.v (Value.int IntKind.i64 (z3 - (0 : Int)))))) ∧ True))) ∧ (([(Option.some (Blk.mk (5 : Nat) (u8s (xs ++ ys)) full))] = [(Option.some (Blk.mk (5 : Nat) (u8s ((revT xs (0 : Nat)) ++ ys)) full))]) ∧ (Unit → (True → (True ∧ ((z5 = z5) ∧ ([z1] = [z1])))))))))))))) (by kernel_rfl) ?_
  have hw : IntKind.i64.wrap ((xs.length : Int) - 1) = (xs.length : Int) - 1 - 0 := by rw [wrap_i64_of (by omega) (by omega)]; omega
  simp only [true_and, and_true, and_self, IsInt_lit, IsBool_lit, IsStr_lit, Bool.not_eq_true', Bool.not_eq_false', Bool.not_true, Bool.not_false, Int.reduceLE, Int.reduceLT, Int.reduceNeg, Nat.le_refl, Int.le_refl, Nat.reduceLT, Nat.reduceLeDiff, Nat.reduceEqDiff, D.v.injEq, D.tup.injEq, D.agg.injEq, D.ro.injEq, List.cons.injEq, Value.int.injEq, Value.bool.injEq, pcond_true, pcond_false, NamelessL, Nameless, Nat.reduceMul, Nat.reduceAdd, Nat.zero_add, Int.toNat_natCast, hw, revT_start]
  exact ⟨Nat.zero_le _, fun _ _ => trivial⟩
def entm_rev : EntM := fun off n c plain blk => match c, plain, blk with
  | .toEnd 1, [], ⟨ty, cs, full⟩ => some (.tup [], ⟨ty, u8s (((unb cs).take n).reverse ++ (unb cs).drop n), full⟩, ((ty = 5 ∧ off = 0) ∧ cs = u8s (unb cs)) ∧ n ≤ (unb cs).length ∧ n ≤ 1000000)
  | _, _, _ => none
theorem entm_rev_ok : EntMOk Try.prog 90 entm_rev := by
  intro off n c plain blk d blk' p h hp
  unfold entm_rev at h
  split at h
  · rename_i ty cs full
    simp only [Option.some.injEq, Prod.mk.injEq] at h
    obtain ⟨rfl, rfl, rfl⟩ := h
    obtain ⟨⟨⟨rfl, rfl⟩, hcs⟩, hl, hm⟩ := hp
    generalize unb cs = zs at *
    subst hcs
    have hlt : (zs.take n).length = n := by simp; omega
    have := rev_mut full (zs.take n) (zs.drop n) (by omega)
    rw [hlt, List.take_append_drop] at this
    exact this
  · cases h
end Go.Proofs.Ythnhfkpihbjddaa
end
