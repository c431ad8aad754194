import Derived.Test.YthnhfkpihbjddaaZKv15
section
namespace Go.Proofs.Ythnhfkpihbjddaa
open Go.VD
set_option linter.unusedVariables false
set_option linter.unusedSimpArgs false
set_option maxRecDepth 100000
def lp_cutE (full : Bool) (zs : List Nat) (n : Nat) : LoopO := loopRuleD (α := Nat) (β := Unit) (fun k => k ≤ n ∧ tn zs k = tn zs n)
  (fun k => [(0, d_sE n), (3, .v (.int .i64 (k : Int)))])
  (fun k => d_zb full zs) n (fun _ => True) (fun _ => (.exit 0, [(0, d_sE n), (3, .v (.int .i64 (tn zs n : Nat)))], d_zb full zs))
theorem cutE_rule (full : Bool) (zs : List Nat) (n : Nat) (hpre : n ≤ zs.length ∧ zs.length ≤ 1000000) : LRule Try.prog Try.f89.ntmps (loopAt ((Try.f89.body).getD .skip) 2) (lp_cutE full zs n) := by
  refine lruleD_of (α := Nat) (β := Unit) (call := noCalls) (lp := fun _ => none) (N := 10) T_ok mixed noCalls_ok (fun k => k) (by kernel_rfl) (LpAll.none _) ?_
  intro x hJ
  refine of_eq (B := letI z7 := (Exit.exit (0 : Nat)); letI z2 := (Option.some (D.sl (0 : Nat) (0 : Nat) n (Cap.toEnd (1 : Nat)))); letI z6 := ((x : Nat) : Int); letI z3 := (Option.some (Blk.mk (41 : Nat) (u32s zs) full)); letI z0 := (True ∧ ((z7 = z7) ∧ (((z2 = z2) ∧ (((Option.some (D.v (Value.int IntKind.i64 z6))) = (Option.some (D.v (Value.int IntKind.i64 (((tn zs n) : Nat) : Int))))) ∧ True)) ∧ ([z3] = [z3])))); letI z1 := (IntKind.wrap IntKind.i64 (z6 - (1 : Int))); letI z5 := ((0 : Nat) + ((Int.toNat z1) * (1 : Nat))); letI z4 := (List.getD (u32s zs) z5 (Inhabited.default)); (True ∧ (True ∧ (True ∧ (pcond (Decidable.decide ((0 : Int) < z6)) (True ∧ (True ∧ (True ∧ ((((0 : Int) ≤ z1) ∧ (z1 < ((n : Nat) : Int))) ∧ (((z5 < (List.length (u32s zs))) ∧ (IsInt IntKind.u32 z4)) ∧ (True ∧ (True ∧ (pcond ((cellInt z4) == (0 : Int)) (True ∧ (True ∧ (True ∧ (∃ (y : Nat), ((y < x) ∧ (((y ≤ n) ∧ ((tn zs y) = (tn zs n))) ∧ (((z2 = z2) ∧ (((Option.some (D.v (Value.int IntKind.i64 z1))) = (Option.some (D.v (Value.int IntKind.i64 ((y : Nat) : Int))))) ∧ True)) ∧ ([z3] = [z3])))))))) (∃ (r : Unit), z0))))))))) (True ∧ (∃ (r : Unit), z0))))))) (by kernel_rfl) ?_
  obtain ⟨hl, hb⟩ := hpre
  obtain ⟨hx, ht⟩ := hJ
  simp only [true_and, and_true, and_self, IsInt_lit, IsBool_lit, IsStr_lit, Bool.not_eq_true', Bool.not_eq_false', Bool.not_true, Bool.not_false, Int.reduceLE, Int.reduceLT, Int.reduceNeg, Nat.le_refl, Int.le_refl, Nat.reduceLT, Nat.reduceLeDiff, Nat.reduceEqDiff, D.v.injEq, D.tup.injEq, D.agg.injEq, D.ro.injEq, List.cons.injEq, Value.int.injEq, Value.bool.injEq, pcond_true, pcond_false, NamelessL, Nameless, Nat.reduceMul, Nat.reduceAdd, Nat.zero_add, Int.toNat_natCast]
  refine pcond_intro (fun h => ?_) (fun h => ?_)
  · simp only [decide_eq_true_eq] at h
    obtain ⟨j, rfl⟩ : ∃ j, x = j + 1 := ⟨x - 1, by omega⟩
    have e : IntKind.i64.wrap (((j + 1 : Nat) : Int) - 1) = (j : Int) := by rw [wrap_i64_of (by omega) (by omega)]; omega
    simp only [e, Int.toNat_natCast, Nat.mul_one, u32s_cell, u32s_length, u32s_isInt _ _ (show j < zs.length by omega)]
    refine ⟨⟨by omega, by omega⟩, ⟨by omega, trivial⟩, pcond_intro (fun h2 => ⟨j, by omega, ⟨by omega, ?_⟩, rfl⟩) (fun h2 => ⟨(), ?_⟩)⟩
    · rw [← ht]; simp at h2; simp [tn, h2]
    · have : tn zs n = j + 1 := by rw [← ht]; simp at h2; simp [tn, h2]
      simp [this]
  · have : tn zs n = x := by rw [← ht]; simp at h; subst h; rfl
    refine ⟨(), ?_⟩
    simp [this]
theorem cutE_nil (full : Bool) (zs : List Nat) (n : Nat) (hpre : n ≤ zs.length ∧ zs.length ≤ 1000000) (h0 : tn zs n = 0) : CallJ Try.prog 89 [d_sE n] (d_zb full zs) (.v (.slice none 0 0)) (d_zb full zs) := by
  refine callJ_same (call := noCalls) (lp := fun k' => bif Nat.beq k' 2 then some (lp_cutE full zs n) else none) (N := 10) T_ok mixed noCalls_ok Try.func89 rfl (by decide) (by kernel_rfl) (by kernel_rfl)
    (of_eq (B := LRule Try.prog Try.f89.ntmps (loopAt ((Try.f89.body).getD .skip) 2) (lp_cutE full zs n) ∧ True) (by kernel_rfl) ⟨cutE_rule full zs n hpre, trivial⟩) ?_
  refine of_eq (B := letI z0 := (Option.some (Blk.mk (41 : Nat) (u32s zs) full)); letI z1 := (((tn zs n) : Nat) : Int); letI z2 := (D.v (Value.slice (Option.none) (0 : Nat) (0 : Nat))); letI z3 := (Option.some (D.sl (0 : Nat) (0 : Nat) n (Cap.toEnd (1 : Nat)))); letI z4 := (Option.some (D.v (Value.int IntKind.i64 ((n : Nat) : Int)))); letI z5 := ((Int.toNat z1) - (0 : Nat)); (True ∧ (True ∧ (True ∧ (True ∧ (((n ≤ n) ∧ ((tn zs n) = (tn zs n))) ∧ (((z3 = z3) ∧ ((z4 = z4) ∧ True)) ∧ (([z0] = [z0]) ∧ (Unit → (True → (True ∧ (True ∧ (pcond (z1 == (0 : Int)) (True ∧ (True ∧ ((z2 = z2) ∧ ([z0] = [z0])))) (True ∧ (True ∧ (True ∧ (((True ∧ ((((0 : Int) ≤ z1) ∧ (z1 ≤ (((Int.toNat z1) : Nat) : Int))) ∧ (((0 : Int) ≤ z1) ∧ ((z1 ≤ ((n : Nat) : Int)) ∧ (Bool.true = Bool.true))))) ∧ ((1 : Nat) = (1 : Nat))) ∧ (True ∧ (True ∧ (((D.sl (0 : Nat) (0 : Nat) z5 (Cap.exact z5 (1 : Nat))) = z2) ∧ ([z0] = [z0]))))))))))))))))))))) (by kernel_rfl) ?_
  simp only [true_and, and_true, and_self, IsInt_lit, IsBool_lit, IsStr_lit, Bool.not_eq_true', Bool.not_eq_false', Bool.not_true, Bool.not_false, Int.reduceLE, Int.reduceLT, Int.reduceNeg, Nat.le_refl, Int.le_refl, Nat.reduceLT, Nat.reduceLeDiff, Nat.reduceEqDiff, D.v.injEq, D.tup.injEq, D.agg.injEq, D.ro.injEq, List.cons.injEq, Value.int.injEq, Value.bool.injEq, pcond_true, pcond_false, NamelessL, Nameless, Nat.reduceMul, Nat.reduceAdd, Nat.zero_add, Int.toNat_natCast, h0]
  exact fun _ _ => pcond_intro (fun _ => trivial) (fun h => by simp at h)
theorem cutE_some (full : Bool) (zs : List Nat) (n : Nat) (hpre : n ≤ zs.length ∧ zs.length ≤ 1000000) (h0 : 0 < tn zs n) : CallJ Try.prog 89 [d_sE n] (d_zb full zs) (.sl 0 0 (tn zs n) (.exact (tn zs n) 1)) (d_zb full zs) := by
  refine callJ_same (call := noCalls) (lp := fun k' => bif Nat.beq k' 2 then some (lp_cutE full zs n) else none) (N := 10) T_ok mixed noCalls_ok Try.func89 rfl (by decide) (by kernel_rfl) (by kernel_rfl)
    (of_eq (B := LRule Try.prog Try.f89.ntmps (loopAt ((Try.f89.body).getD .skip) 2) (lp_cutE full zs n) ∧ True) (by kernel_rfl) ⟨cutE_rule full zs n hpre, trivial⟩) ?_
  refine of_eq (B := letI z0 := (Option.some (Blk.mk (41 : Nat) (u32s zs) full)); letI z1 := (((tn zs n) : Nat) : Int); letI z2 := (D.sl (0 : Nat) (0 : Nat) (tn zs n) (Cap.exact (tn zs n) (1 : Nat))); letI z3 := (Option.some (D.sl (0 : Nat) (0 : Nat) n (Cap.toEnd (1 : Nat)))); letI z4 := (Option.some (D.v (Value.int IntKind.i64 ((n : Nat) : Int)))); letI z5 := ((Int.toNat z1) - (0 : Nat)); (True ∧ (True ∧ (True ∧ (True ∧ (((n ≤ n) ∧ ((tn zs n) = (tn zs n))) ∧ (((z3 = z3) ∧ ((z4 = z4) ∧ True)) ∧ (([z0] = [z0]) ∧ (Unit → (True → (True ∧ (True ∧ (pcond (z1 == (0 : Int)) (True ∧ (True ∧ (((D.v (Value.slice (Option.none) (0 : Nat) (0 : Nat))) = z2) ∧ ([z0] = [z0])))) (True ∧ (True ∧ (True ∧ (((True ∧ ((((0 : Int) ≤ z1) ∧ (z1 ≤ (((Int.toNat z1) : Nat) : Int))) ∧ (((0 : Int) ≤ z1) ∧ ((z1 ≤ ((n : Nat) : Int)) ∧ (Bool.true = Bool.true))))) ∧ ((1 : Nat) = (1 : Nat))) ∧ (True ∧ (True ∧ (((D.sl (0 : Nat) (0 : Nat) z5 (Cap.exact z5 (1 : Nat))) = z2) ∧ ([z0] = [z0]))))))))))))))))))))) (by kernel_rfl) ?_
  have ht := tn_le zs n
  simp only [true_and, and_true, and_self, IsInt_lit, IsBool_lit, IsStr_lit, Bool.not_eq_true', Bool.not_eq_false', Bool.not_true, Bool.not_false, Int.reduceLE, Int.reduceLT, Int.reduceNeg, Nat.le_refl, Int.le_refl, Nat.reduceLT, Nat.reduceLeDiff, Nat.reduceEqDiff, D.v.injEq, D.tup.injEq, D.agg.injEq, D.ro.injEq, List.cons.injEq, Value.int.injEq, Value.bool.injEq, pcond_true, pcond_false, NamelessL, Nameless, Nat.reduceMul, Nat.reduceAdd, Nat.zero_add, Int.toNat_natCast]
  intro _ _
  refine pcond_intro (fun h => ?_) (fun h => ⟨⟨by omega, by omega, by omega⟩, rfl⟩)
  simp at h; omega
def lp_cutX (full : Bool) (zs : List Nat) (n : Nat) : LoopO := loopRuleD (α := Nat) (β := Unit) (fun k => k ≤ n ∧ tn zs k = tn zs n)
  (fun k => [(0, d_sX n), (3, .v (.int .i64 (k : Int)))])
  (fun k => d_zb full zs) n (fun _ => True) (fun _ => (.exit 0, [(0, d_sX n), (3, .v (.int .i64 (tn zs n : Nat)))], d_zb full zs))
theorem cutX_rule (full : Bool) (zs : List Nat) (n : Nat) (hpre : n ≤ zs.length ∧ zs.length ≤ 1000000) : LRule Try.prog Try.f89.ntmps (loopAt ((Try.f89.body).getD .skip) 2) (lp_cutX full zs n) := by
  refine lruleD_of (α := Nat) (β := Unit) (call := noCalls) (lp := fun _ => none) (N := 10) T_ok mixed noCalls_ok (fun k => k) (by kernel_rfl) (LpAll.none _) ?_
  intro x hJ
  refine of_eq (B := letI z7 := (Exit.exit (0 : Nat)); letI z2 := (Option.some (D.sl (0 : Nat) (0 : Nat) n (Cap.exact n (1 : Nat)))); letI z6 := ((x : Nat) : Int); letI z3 := (Option.some (Blk.mk (41 : Nat) (u32s zs) full)); letI z0 := (True ∧ ((z7 = z7) ∧ (((z2 = z2) ∧ (((Option.some (D.v (Value.int IntKind.i64 z6))) = (Option.some (D.v (Value.int IntKind.i64 (((tn zs n) : Nat) : Int))))) ∧ True)) ∧ ([z3] = [z3])))); letI z1 := (IntKind.wrap IntKind.i64 (z6 - (1 : Int))); letI z5 := ((0 : Nat) + ((Int.toNat z1) * (1 : Nat))); letI z4 := (List.getD (u32s zs) z5 (Inhabited.default)); (True ∧ (True ∧ (True ∧ (pcond (Decidable.decide ((0 : Int) < z6)) (True ∧ (True ∧ (True ∧ ((((0 : Int) ≤ z1) ∧ (z1 < ((n : Nat) : Int))) ∧ (((z5 < (List.length (u32s zs))) ∧ (IsInt IntKind.u32 z4)) ∧ (True ∧ (True ∧ (pcond ((cellInt z4) == (0 : Int)) (True ∧ (True ∧ (True ∧ (∃ (y : Nat), ((y < x) ∧ (((y ≤ n) ∧ ((tn zs y) = (tn zs n))) ∧ (((z2 = z2) ∧ (((Option.some (D.v (Value.int IntKind.i64 z1))) = (Option.some (D.v (Value.int IntKind.i64 ((y : Nat) : Int))))) ∧ True)) ∧ ([z3] = [z3])))))))) (∃ (r : Unit), z0))))))))) (True ∧ (∃ (r : Unit), z0))))))) (by kernel_rfl) ?_
  obtain ⟨hl, hb⟩ := hpre
  obtain ⟨hx, ht⟩ := hJ
  simp only [true_and, and_true, and_self, IsInt_lit, IsBool_lit, IsStr_lit, Bool.not_eq_true', Bool.not_eq_false', Bool.not_true, Bool.not_false, Int.reduceLE, Int.reduceLT, Int.reduceNeg, Nat.le_refl, Int.le_refl, Nat.reduceLT, Nat.reduceLeDiff, Nat.reduceEqDiff, D.v.injEq, D.tup.injEq, D.agg.injEq, D.ro.injEq, List.cons.injEq, Value.int.injEq, Value.bool.injEq, pcond_true, pcond_false, NamelessL, Nameless, Nat.reduceMul, Nat.reduceAdd, Nat.zero_add, Int.toNat_natCast]
  refine pcond_intro (fun h => ?_) (fun h => ?_)
  · simp only [decide_eq_true_eq] at h
    obtain ⟨j, rfl⟩ : ∃ j, x = j + 1 := ⟨x - 1, by omega⟩
    have e : IntKind.i64.wrap (((j + 1 : Nat) : Int) - 1) = (j : Int) := by rw [wrap_i64_of (by omega) (by omega)]; omega
    simp only [e, Int.toNat_natCast, Nat.mul_one, u32s_cell, u32s_length, u32s_isInt _ _ (show j < zs.length by omega)]
    refine ⟨⟨by omega, by omega⟩, ⟨by omega, trivial⟩, pcond_intro (fun h2 => ⟨j, by omega, ⟨by omega, ?_⟩, rfl⟩) (fun h2 => ⟨(), ?_⟩)⟩
    · rw [← ht]; simp at h2; simp [tn, h2]
    · have : tn zs n = j + 1 := by rw [← ht]; simp at h2; simp [tn, h2]
      simp [this]
  · have : tn zs n = x := by rw [← ht]; simp at h; subst h; rfl
    refine ⟨(), ?_⟩
    simp [this]
theorem cutX_nil (full : Bool) (zs : List Nat) (n : Nat) (hpre : n ≤ zs.length ∧ zs.length ≤ 1000000) (h0 : tn zs n = 0) : CallJ Try.prog 89 [d_sX n] (d_zb full zs) (.v (.slice none 0 0)) (d_zb full zs) := by
  refine callJ_same (call := noCalls) (lp := fun k' => bif Nat.beq k' 2 then some (lp_cutX full zs n) else none) (N := 10) T_ok mixed noCalls_ok Try.func89 rfl (by decide) (by kernel_rfl) (by kernel_rfl)
    (of_eq (B := LRule Try.prog Try.f89.ntmps (loopAt ((Try.f89.body).getD .skip) 2) (lp_cutX full zs n) ∧ True) (by kernel_rfl) ⟨cutX_rule full zs n hpre, trivial⟩) ?_
  refine of_eq (B := letI z0 := (Option.some (Blk.mk (41 : Nat) (u32s zs) full)); letI z1 := (((tn zs n) : Nat) : Int); letI z2 := (D.v (Value.slice (Option.none) (0 : Nat) (0 : Nat))); letI z3 := (Option.some (D.sl (0 : Nat) (0 : Nat) n (Cap.exact n (1 : Nat)))); letI z4 := (Option.some (D.v (Value.int IntKind.i64 ((n : Nat) : Int)))); letI z5 := ((Int.toNat z1) - (0 : Nat)); (True ∧ (True ∧ (True ∧ (True ∧ (((n ≤ n) ∧ ((tn zs n) = (tn zs n))) ∧ (((z3 = z3) ∧ ((z4 = z4) ∧ True)) ∧ (([z0] = [z0]) ∧ (Unit → (True → (True ∧ (True ∧ (pcond (z1 == (0 : Int)) (True ∧ (True ∧ ((z2 = z2) ∧ ([z0] = [z0])))) (True ∧ (True ∧ (True ∧ (((True ∧ ((((0 : Int) ≤ z1) ∧ (z1 ≤ (((Int.toNat z1) : Nat) : Int))) ∧ (((0 : Int) ≤ z1) ∧ ((z1 ≤ ((n : Nat) : Int)) ∧ (Bool.true = Bool.true))))) ∧ ((1 : Nat) = (1 : Nat))) ∧ (True ∧ (True ∧ (((D.sl (0 : Nat) (0 : Nat) z5 (Cap.exact z5 (1 : Nat))) = z2) ∧ ([z0] = [z0]))))))))))))))))))))) (by kernel_rfl) ?_
  simp only [true_and, and_true, and_self, IsInt_lit, IsBool_lit, IsStr_lit, Bool.not_eq_true', Bool.not_eq_false', Bool.not_true, Bool.not_false, Int.reduceLE, Int.reduceLT, Int.reduceNeg, Nat.le_refl, Int.le_refl, Nat.reduceLT, Nat.reduceLeDiff, Nat.reduceEqDiff, D.v.injEq, D.tup.injEq, D.agg.injEq, D.ro.injEq, List.cons.injEq, Value.int.injEq, Value.bool.injEq, pcond_true, pcond_false, NamelessL, Nameless, Nat.reduceMul, Nat.reduceAdd, Nat.zero_add, Int.toNat_natCast, h0]
  exact fun _ _ => pcond_intro (fun _ => trivial) (fun h => by simp at h)
theorem cutX_some (full : Bool) (zs : List Nat) (n : Nat) (hpre : n ≤ zs.length ∧ zs.length ≤ 1000000) (h0 : 0 < tn zs n) : CallJ Try.prog 89 [d_sX n] (d_zb full zs) (.sl 0 0 (tn zs n) (.exact (tn zs n) 1)) (d_zb full zs) := by
  refine callJ_same (call := noCalls) (lp := fun k' => bif Nat.beq k' 2 then some (lp_cutX full zs n) else none) (N := 10) T_ok mixed noCalls_ok Try.func89 rfl (by decide) (by kernel_rfl) (by kernel_rfl)
    (of_eq (B := LRule Try.prog Try.f89.ntmps (loopAt ((Try.f89.body).getD .skip) 2) (lp_cutX full zs n) ∧ True) (by kernel_rfl) ⟨cutX_rule full zs n hpre, trivial⟩) ?_
  refine of_eq (B := letI z0 := (Option.some (Blk.mk (41 : Nat) (u32s zs) full)); letI z1 := (((tn zs n) : Nat) : Int); letI z2 := (D.sl (0 : Nat) (0 : Nat) (tn zs n) (Cap.exact (tn zs n) (1 : Nat))); letI z3 := (Option.some (D.sl (0 : Nat) (0 : Nat) n (Cap.exact n (1 : Nat)))); letI z4 := (Option.some (D.v (Value.int IntKind.i64 ((n : Nat) : Int)))); letI z5 := ((Int.toNat z1) - (0 : Nat)); (True ∧ (True ∧ (True ∧ (True ∧ (((n ≤ n) ∧ ((tn zs n) = (tn zs n))) ∧ (((z3 = z3) ∧ ((z4 = z4) ∧ True)) ∧ (([z0] = [z0]) ∧ (Unit → (True → (True ∧ (True ∧ (pcond (z1 == (0 : Int)) (True ∧ (True ∧ (((D.v (Value.slice (Option.none) (0 : Nat) (0 : Nat))) = z2) ∧ ([z0] = [z0])))) (True ∧ (True ∧ (True ∧ (((True ∧ ((((0 : Int) ≤ z1) ∧ (z1 ≤ (((Int.toNat z1) : Nat) : Int))) ∧ (((0 : Int) ≤ z1) ∧ ((z1 ≤ ((n : Nat) : Int)) ∧ (Bool.true = Bool.true))))) ∧ ((1 : Nat) = (1 : Nat))) ∧ (True ∧ (True ∧ (((D.sl (0 : Nat) (0 : Nat) z5 (Cap.exact z5 (1 : Nat))) = z2) ∧ ([z0] = [z0]))))))))))))))))))))) (by kernel_rfl) ?_
  have ht := tn_le zs n
  simp only [true_and, and_true, and_self, IsInt_lit, IsBool_lit, IsStr_lit, Bool.not_eq_true', Bool.not_eq_false', Bool.not_true, Bool.not_false, Int.reduceLE, Int.reduceLT, Int.reduceNeg, Nat.le_refl, Int.le_refl, Nat.reduceLT, Nat.reduceLeDiff, Nat.reduceEqDiff, D.v.injEq, D.tup.injEq, D.agg.injEq, D.ro.injEq, List.cons.injEq, Value.int.injEq, Value.bool.injEq, pcond_true, pcond_false, NamelessL, Nameless, Nat.reduceMul, Nat.reduceAdd, Nat.zero_add, Int.toNat_natCast]
  intro _ _
  refine pcond_intro (fun h => ?_) (fun h => ⟨⟨by omega, by omega, by omega⟩, rfl⟩)
  simp at h; omega
def ents_cut : EntS := fun off n c plain blk => match c, plain, blk with
  | .toEnd 1, [], ⟨ty, cs, full⟩ => some (tn (unu cs) n, ((ty = 41 ∧ off = 0) ∧ cs = u32s (unu cs)) ∧ n ≤ (unu cs).length ∧ (unu cs).length ≤ 1000000)
  | .exact cap 1, [], ⟨ty, cs, full⟩ => some (tn (unu cs) n, ((ty = 41 ∧ off = 0) ∧ cs = u32s (unu cs) ∧ cap = n) ∧ n ≤ (unu cs).length ∧ (unu cs).length ≤ 1000000)
  | _, _, _ => none
theorem ents_cut_ok : EntSOk Try.prog 89 ents_cut := by
  intro off n c plain blk m p h hp
  unfold ents_cut at h
  split at h
  · rename_i ty cs full
    simp only [Option.some.injEq, Prod.mk.injEq] at h
    obtain ⟨rfl, rfl⟩ := h
    obtain ⟨⟨⟨rfl, rfl⟩, hcs⟩, hl⟩ := hp
    generalize unu cs = zs at *
    subst hcs
    exact ⟨by simp [NamelessL], u32s_nameless _, fun h => cutE_nil full zs n hl h, fun h => cutE_some full zs n hl h⟩
  · rename_i cap ty cs full
    simp only [Option.some.injEq, Prod.mk.injEq] at h
    obtain ⟨rfl, rfl⟩ := h
    obtain ⟨⟨⟨rfl, rfl⟩, hcs, rfl⟩, hl⟩ := hp
    generalize unu cs = zs at *
    subst hcs
    exact ⟨by simp [NamelessL], u32s_nameless _, fun h => cutX_nil full zs _ hl h, fun h => cutX_some full zs _ hl h⟩
  · cases h
theorem kclone (xs : List Nat) (hpre : 0 < xs.length ∧ xs.length ≤ 1000000) : CallJ Try.prog 87 [.ro xs.length (u32s xs)] [] (.sl 0 0 xs.length (.toEnd 1)) [some ⟨41, u32s xs, false⟩] := by
  refine callJ_second (call := noCalls) (lp := fun _ => none) (N := 10) T_ok mixed noCalls_ok Try.func87 rfl (by decide) (by kernel_rfl) (by kernel_rfl) (LpAll.none _) (u32s_nameless _) ?_
  refine of_eq (B := letI z0 := List.length xs; letI z1 := ((0 : Nat) + z0); letI z2 := (9223372036854775807 : Nat); letI z3 := (Cap.toEnd (1 : Nat)); (True ∧ (True ∧ (((0 : Nat) < z0) ∧ ((((0 : Nat) ≤ (16777216 : Nat)) ∧ ((0 : Nat) ≤ z2)) ∧ (True ∧ ((((z0 * (1 : Nat)) ≤ (List.length (u32s xs))) ∧ (((22 : Nat) = (22 : Nat)) ∧ (((1 : Nat) = (1 : Nat)) ∧ (((41 : Nat) = (41 : Nat)) ∧ (((0 : Nat) ≤ (0 : Nat)) ∧ (((0 : Nat) < (1 : Nat)) ∧ ((z1 ≤ z2) ∧ ((z1 * (4 : Nat)) ≤ (140737488355328 : Nat))))))))) ∧ (True ∧ (True ∧ (((D.sl (1 : Nat) (0 : Nat) z1 z3) = (D.sl (1 : Nat) (0 : Nat) z0 z3)) ∧ ([(Option.none), (Option.some (Blk.mk (41 : Nat) (([] : List D) ++ (List.take (z0 * (1 : Nat)) (u32s xs))) Bool.false))] = [(Option.none), (Option.some (Blk.mk (41 : Nat) (u32s xs) Bool.false))]))))))))))) (by kernel_rfl) ?_
  simp only [true_and, and_true, and_self, IsInt_lit, IsBool_lit, IsStr_lit, Bool.not_eq_true', Bool.not_eq_false', Bool.not_true, Bool.not_false, Int.reduceLE, Int.reduceLT, Int.reduceNeg, Nat.le_refl, Int.le_refl, Nat.reduceLT, Nat.reduceLeDiff, Nat.reduceEqDiff, D.v.injEq, D.tup.injEq, D.agg.injEq, D.ro.injEq, List.cons.injEq, Value.int.injEq, Value.bool.injEq, pcond_true, pcond_false, NamelessL, Nameless, Nat.reduceMul, Nat.reduceAdd, Nat.zero_add, Int.toNat_natCast, Nat.mul_one, u32s_take, u32s_length, List.take_length, List.nil_append]
  exact ⟨hpre.1, by omega, by omega⟩
def entk_clone : EntK := fun ds => match ds with
  | [.ro n cs] => some (n, .toEnd 1, ⟨41, cs, false⟩, (cs = u32s (unu cs) ∧ n = (unu cs).length) ∧ 0 < (unu cs).length ∧ (unu cs).length ≤ 1000000)
  | _ => none
theorem entk_clone_ok : EntKOk Try.prog 87 entk_clone := by
  intro ds n c blk p h hp
  unfold entk_clone at h
  split at h
  · rename_i n cs
    simp only [Option.some.injEq, Prod.mk.injEq] at h
    obtain ⟨rfl, rfl, rfl, rfl⟩ := h
    obtain ⟨⟨hcs, hn⟩, hl⟩ := hp
    generalize unu cs = xs at *
    subst hcs; subst hn
    exact ⟨kclone xs hl, by simp [NamelessL, Nameless, u32s_nameless], u32s_nameless _⟩
  · cases h
def d_bb (full : Bool) (o : List Nat) : Heap := [some ⟨5, u8s o, full⟩]
def lp_rev (full : Bool) (xs ys : List Nat) : LoopO := loopRuleD (α := Nat) (β := Unit) (fun i => i ≤ xs.length)
  (fun i => [(0, d_sE xs.length), (2, .v (.int .i64 (i : Int))), (3, .v (.int .i64 ((xs.length : Int) - 1 - i)))])
  (fun i => d_bb full (revT xs i ++ ys)) 0 (fun _ => True) (fun _ => (.exit 0, [], d_bb full (xs.reverse ++ ys)))
theorem rev_rule (full : Bool) (xs ys : List Nat) (hpre : xs.length ≤ 1000000) : LRule Try.prog Try.f90.ntmps (loopAt ((Try.f90.body).getD .skip) 1) (lp_rev full xs ys) := by
  refine lruleD_of (α := Nat) (β := Unit) (call := noCalls) (lp := fun _ => none) (N := 10) T_ok mixed noCalls_ok (fun i => xs.length - i) (by kernel_rfl) (LpAll.none _) ?_
  intro i hJ
  refine of_eq (B := letI z8 := List.length xs; letI z4 := ((z8 : Nat) : Int); letI z5 := ((i : Nat) : Int); letI z0 := ((z4 - (1 : Int)) - z5); letI z1 := ((0 : Nat) + ((Int.toNat z5) * (1 : Nat))); letI z2 := (u8s ((revT xs i) ++ ys)); letI z3 := ((0 : Nat) + ((Int.toNat z0) * (1 : Nat))); letI z9 := (List.getD z2 z3 (Inhabited.default)); letI z6 := (List.set z2 z1 (D.v (Value.int IntKind.u8 (cellInt z9)))); letI z7 := (Option.some (D.sl (0 : Nat) (0 : Nat) z8 (Cap.toEnd (1 : Nat)))); letI z10 := (List.getD z2 z1 (Inhabited.default)); letI z11 := (((0 : Int) ≤ z0) ∧ (z0 < z4)); letI z12 := (((0 : Int) ≤ z5) ∧ (z5 < z4)); letI z13 := List.length z2; letI z14 := ((1 : Nat) = (1 : Nat)); letI z15 := (Exit.exit (0 : Nat)); (True ∧ (True ∧ (True ∧ (pcond (Decidable.decide (z5 < z0)) (True ∧ (True ∧ (True ∧ (True ∧ (True ∧ (True ∧ (z11 ∧ (((z3 < z13) ∧ (IsInt IntKind.u8 z9)) ∧ (True ∧ (True ∧ (z12 ∧ (((z1 < z13) ∧ (IsInt IntKind.u8 z10)) ∧ (z12 ∧ ((z14 ∧ ((z1 + (1 : Nat)) ≤ z13)) ∧ (z11 ∧ ((z14 ∧ ((z3 + (1 : Nat)) ≤ (List.length z6))) ∧ ((Bool.true = Bool.true) ∧ (True ∧ (True ∧ (True ∧ (True ∧ (True ∧ (True ∧ (∃ (y : Nat), (((z8 - y) < (z8 - i)) ∧ ((y ≤ z8) ∧ (((z7 = z7) ∧ (((Option.some (D.v (Value.int IntKind.i64 (IntKind.wrap IntKind.i64 (z5 + (1 : Int)))))) = (Option.some (D.v (Value.int IntKind.i64 ((y : Nat) : Int))))) ∧ (((Option.some (D.v (Value.int IntKind.i64 (IntKind.wrap IntKind.i64 (z0 - (1 : Int)))))) = (Option.some (D.v (Value.int IntKind.i64 ((z4 - (1 : Int)) - ((y : Nat) : Int)))))) ∧ True))) ∧ ([(Option.some (Blk.mk (5 : Nat) (List.set z6 z3 (D.v (Value.int IntKind.u8 (cellInt z10)))) full))] = [(Option.some (Blk.mk (5 : Nat) (u8s ((revT xs y) ++ ys)) full))])))))))))))))))))))))))))))) (∃ (r : Unit), (True ∧ ((z15 = z15) ∧ (True ∧ ([(Option.some (Blk.mk (5 : Nat) z2 full))] = [(Option.some (Blk.mk (5 : Nat) (u8s ((List.reverse xs) ++ ys)) full))])))))))))) (by kernel_rfl) ?_
  simp only [true_and, and_true, and_self, IsInt_lit, IsBool_lit, IsStr_lit, Bool.not_eq_true', Bool.not_eq_false', Bool.not_true, Bool.not_false, Int.reduceLE, Int.reduceLT, Int.reduceNeg, Nat.le_refl, Int.le_refl, Nat.reduceLT, Nat.reduceLeDiff, Nat.reduceEqDiff, D.v.injEq, D.tup.injEq, D.agg.injEq, D.ro.injEq, List.cons.injEq, Value.int.injEq, Value.bool.injEq, pcond_true, pcond_false, NamelessL, Nameless, Nat.reduceMul, Nat.reduceAdd, Nat.zero_add, Int.toNat_natCast]
  refine pcond_intro (fun h => ?_) (fun h => ?_)
  · simp only [decide_eq_true_eq] at h
    have hs := revT_step (xs := xs) (i := i) (by omega)
    have e0 : ((xs.length : Int) - 1 - (i : Int)).toNat = xs.length - 1 - i := by omega
    have hl := revT_length xs i
    have g1 : ∀ k, k < xs.length → (revT xs i ++ ys).getD k 0 = (revT xs i).getD k 0 := fun k hk => by
      rw [List.getD_eq_getElem?_getD, List.getElem?_append_left (by omega), ← List.getD_eq_getElem?_getD]
    have s1 : ∀ (zs : List Nat) k x, zs.length = xs.length → k < xs.length → (zs ++ ys).set k x = zs.set k x ++ ys := fun zs k x hz hk => List.set_append_left _ _ (by omega)
    have hla : (revT xs i ++ ys).length = xs.length + ys.length := by simp [hl]
    simp only [e0, Nat.mul_one, u8s_length, u8s_cell, u8s_isInt (revT xs i ++ ys) i (by omega), u8s_isInt (revT xs i ++ ys) (xs.length - 1 - i) (by omega), g1 i (by omega), g1 (xs.length - 1 - i) (by omega), u8s_put, s1 _ i _ hl (by omega), s1 ((revT xs i).set i ((revT xs i).getD (xs.length - 1 - i) 0)) (xs.length - 1 - i) _ (by rw [List.length_set]; exact hl) (by omega), hs, and_true]
    refine ⟨by omega, by omega, by omega, by omega, by omega, by omega, by omega, by simp [hl]; omega, i + 1, by omega, by omega, ⟨?_, ?_⟩, rfl⟩
    · rw [wrap_i64_of (by omega) (by omega)]; rfl
    · rw [wrap_i64_of (by omega) (by omega)]; congr 3; omega
  · simp only [decide_eq_false_iff_not] at h
    refine ⟨(), ?_⟩
    rw [revT_end (by omega)]
theorem rev_mut (full : Bool) (xs ys : List Nat) (hpre : xs.length ≤ 1000000) : MutJ Try.prog 90 0 xs.length (.toEnd 1) [] ⟨5, u8s (xs ++ ys), full⟩ (.tup []) ⟨5, u8s (xs.reverse ++ ys), full⟩ := by
  refine mutJ_of_vcx (call := noCalls) (lp := fun k' => bif Nat.beq k' 1 then some (lp_rev full xs ys) else none) (N := 10) T_ok mixed noCalls_ok Try.func90 rfl (by decide) (by kernel_rfl) (by kernel_rfl)
    (of_eq (B := LRule Try.prog Try.f90.ntmps (loopAt ((Try.f90.body).getD .skip) 1) (lp_rev full xs ys) ∧ True) (by kernel_rfl) ⟨rev_rule full xs ys hpre, trivial⟩) (by simp [NamelessL]) (by simp [Nameless, NamelessL]) (u8s_nameless _) (u8s_nameless _) ?_
  refine of_eq (B := letI z4 := List.length xs; letI z0 := (Option.some (D.sl (0 : Nat) (0 : Nat) z4 (Cap.toEnd (1 : Nat)))); letI z1 := (Option.some (Blk.mk (5 : Nat) (u8s ((List.reverse xs) ++ ys)) full)); letI z2 := (Option.some (D.v (Value.int IntKind.i64 (0 : Int)))); letI z3 := (((z4 : Nat) : Int) - (1 : Int)); letI z5 := (D.tup ([] : List D)); (True ∧ (True ∧ (True ∧ (True ∧ (True ∧ (((0 : Nat) ≤ z4) ∧ (((z0 = z0) ∧ ((z2 = z2) ∧ (((Option.some (D.v (Value.int IntKind.i64 (IntKind.wrap IntKind.i64 z3)))) = (Option.some (D.v (Value.int IntKind.i64 (z3 - (0 : Int)))))) ∧ True))) ∧ (([(Option.some (Blk.mk (5 : Nat) (u8s (xs ++ ys)) full))] = [(Option.some (Blk.mk (5 : Nat) (u8s ((revT xs (0 : Nat)) ++ ys)) full))]) ∧ (Unit → (True → (True ∧ ((z5 = z5) ∧ ([z1] = [z1])))))))))))))) (by kernel_rfl) ?_
  have hw : IntKind.i64.wrap ((xs.length : Int) - 1) = (xs.length : Int) - 1 - 0 := by rw [wrap_i64_of (by omega) (by omega)]; omega
  simp only [true_and, and_true, and_self, IsInt_lit, IsBool_lit, IsStr_lit, Bool.not_eq_true', Bool.not_eq_false', Bool.not_true, Bool.not_false, Int.reduceLE, Int.reduceLT, Int.reduceNeg, Nat.le_refl, Int.le_refl, Nat.reduceLT, Nat.reduceLeDiff, Nat.reduceEqDiff, D.v.injEq, D.tup.injEq, D.agg.injEq, D.ro.injEq, List.cons.injEq, Value.int.injEq, Value.bool.injEq, pcond_true, pcond_false, NamelessL, Nameless, Nat.reduceMul, Nat.reduceAdd, Nat.zero_add, Int.toNat_natCast, hw, revT_start]
  exact ⟨Nat.zero_le _, fun _ _ => trivial⟩
def entm_rev : EntM := fun off n c plain blk => match c, plain, blk with
  | .toEnd 1, [], ⟨ty, cs, full⟩ => some (.tup [], ⟨ty, u8s (((unb cs).take n).reverse ++ (unb cs).drop n), full⟩, ((ty = 5 ∧ off = 0) ∧ cs = u8s (unb cs)) ∧ n ≤ (unb cs).length ∧ n ≤ 1000000)
  | _, _, _ => none
theorem entm_rev_ok : EntMOk Try.prog 90 entm_rev := by
  intro off n c plain blk d blk' p h hp
  unfold entm_rev at h
  split at h
  · rename_i ty cs full
    simp only [Option.some.injEq, Prod.mk.injEq] at h
    obtain ⟨rfl, rfl, rfl⟩ := h
    obtain ⟨⟨⟨rfl, rfl⟩, hcs⟩, hl, hm⟩ := hp
    generalize unb cs = zs at *
    subst hcs
    have hlt : (zs.take n).length = n := by simp; omega
    have := rev_mut full (zs.take n) (zs.drop n) (by omega)
    rw [hlt, List.take_append_drop] at this
    exact this
  · cases h
end Go.Proofs.Ythnhfkpihbjddaa
end
section
namespace Go.Proofs.Ythnhfkpihbjddaa
open Go.VD
set_option linter.unusedVariables false
set_option linter.unusedSimpArgs false
set_option maxRecDepth 100000
def dsh (ys : List Nat) : Nat := 32 - bl (ys.getD (ys.length - 1) 0)
def dvs (ys : List Nat) : List Nat := dg (nv ys * 2 ^ dsh ys)
def dHyp (xs ys : List Nat) : Prop := ((xs.length ≤ 100000 ∧ ys.length ≤ 100000) ∧ xs = dg (nv xs) ∧ ys = dg (nv ys)) ∧ 0 < nv ys
def dHyp2 (xs ys : List Nat) : Prop := dHyp xs ys ∧ 2 ≤ ys.length ∧ ys.length ≤ xs.length
def dU0 (xs ys : List Nat) : List Nat := dgn (xs.length + 1) (nv xs * 2 ^ dsh ys)
def dM (xs ys : List Nat) : Nat := xs.length - ys.length + 1
theorem div_facts {xs ys : List Nat} (h : dHyp2 xs ys) : (nv (dvs ys) = nv ys * 2 ^ dsh ys ∧ (dvs ys).length = ys.length) ∧ (2147483648 ≤ (dvs ys).getD ((dvs ys).length - 1) 0 ∧ 0 < nv (dvs ys)) ∧ (nv (dvs ys) < 4294967296 ^ ys.length ∧ 4294967296 ^ ys.length ≤ 2 * nv (dvs ys)) ∧ dsh ys < 32 ∧ (ys.length + dM xs ys = xs.length + 1 ∧ Dig xs ∧ Dig ys ∧ Dig (dvs ys)) := by
  obtain ⟨⟨⟨⟨hlx, hly⟩, gx, gy⟩, h0⟩, h2, hle⟩ := h
  obtain ⟨⟨a1, a2⟩, a3, a4, a5, a6⟩ := norm_facts gy h0
  have hv : nv (dvs ys) = nv ys * 2 ^ dsh ys := nv_dg _
  have hpp := pow_pos32 ys.length
  refine ⟨⟨hv, a2⟩, ⟨?_, by rw [hv]; unfold dsh; omega⟩, ⟨by rw [hv]; exact a5, by rw [hv]; exact a6⟩, a1, by unfold dM; omega, by rw [gx]; exact dg_dig _, by rw [gy]; exact dg_dig _, dg_dig _⟩
  have : (dvs ys).length = ys.length := a2
  rw [this]; exact a3
def lp_divLoop (xs ys : List Nat) : LoopO := loopRule (α := Nat × List Nat × List Nat) (β := List Nat × List Nat) [some 0, some 2] (fun s => (s.1 ≤ dM xs ys ∧ s.2.1.length = xs.length + 1 ∧ Dig s.2.1) ∧ s.2.1.take (s.1 + ys.length) = (dU0 xs ys).take s.1 ++ dgn ys.length (nv xs * 2 ^ dsh ys / 4294967296 ^ s.1 % nv (dvs ys)) ∧ s.2.2 = List.replicate s.1 0 ++ dgn (dM xs ys - s.1) (nv xs * 2 ^ dsh ys / 4294967296 ^ s.1 / nv (dvs ys))) (fun s => [(4, .sl 1 0 (dM xs ys) (.toEnd 1)), (7, .v (.int .i64 (dsh ys : Nat))), (8, .sl 0 0 (xs.length + 1) (.toEnd 1)), (9, .ro (dvs ys).length (u32s (dvs ys))), (10, .v (.int .i64 ((s.1 : Int) - 1)))]) (fun s => [some ⟨41, u32s s.2.1, true⟩, some ⟨41, u32s s.2.2, true⟩]) ((dM xs ys, dU0 xs ys, List.replicate (dM xs ys) 0)) (fun r => (r.1.length = xs.length + 1 ∧ Dig r.1 ∧ r.1.take ys.length = dgn ys.length (nv xs * 2 ^ dsh ys % nv (dvs ys))) ∧ r.2 = dgn (dM xs ys) (nv xs * 2 ^ dsh ys / nv (dvs ys))) (fun r => (.exit 0, [(4, .sl 1 0 (dM xs ys) (.toEnd 1)), (7, .v (.int .i64 (dsh ys : Nat))), (8, .sl 0 0 (xs.length + 1) (.toEnd 1)), (9, .ro (dvs ys).length (u32s (dvs ys)))], [some ⟨41, u32s r.1, true⟩, some ⟨41, u32s r.2, true⟩]))
theorem divLoop_rule (xs ys : List Nat) (hpre : dHyp2 xs ys) : LRuleP Try.prog Try.f51.ntmps (loopAt ((Try.f51.body).getD .skip) 11) (lp_divLoop xs ys) := by
  refine lrule_of (α := Nat × List Nat × List Nat) (β := List Nat × List Nat) (call := (addMut 93 entm_qdig noCalls)) (lp := fun _ => none) (N := 10) T_ok mixed (addMut_ok entm_qdig_ok noCalls_ok) (fun s => s.1) (by kernel_rfl) (LpAllP.none _) ?_
  intro x hJ
  refine of_eq (B := letI z1 := ((((Prod.fst x) : Nat) : Int) - (1 : Int)); letI z17 := (List.length (dvs ys)); letI z0 := (IntKind.wrap IntKind.i64 ((IntKind.wrap IntKind.i64 (z1 + ((z17 : Nat) : Int))) + (1 : Int))); letI z10 := ((List.length xs) + (1 : Nat)); letI z23 := (Cap.toEnd (1 : Nat)); letI z2 := (Prod.mk (8 : Nat) (D.sl (0 : Nat) (0 : Nat) z10 z23)); letI z3 := (Prod.mk (4 : Nat) (D.sl (1 : Nat) (0 : Nat) (dM xs ys) z23)); letI z4 := (Prod.mk (7 : Nat) (D.v (Value.int IntKind.i64 (((dsh ys) : Nat) : Int)))); letI z20 := (u32s (dvs ys)); letI z5 := (Prod.mk (9 : Nat) (D.ro z17 z20)); letI z6 := ((0 : Nat) + ((Int.toNat z1) * (1 : Nat))); letI z7 := (u32s (Prod.fst (Prod.snd x))); letI z8 := (unu z20); letI z9 := ((nv xs) * ((2 : Nat) ^ (dsh ys))); letI z11 := (Prod (List Nat) (List Nat)); letI z12 := List.length z8; letI z13 := ((Int.toNat z0) - (Int.toNat z1)); letI z14 := (u32s (Prod.snd (Prod.snd x))); letI z15 := (Exit.exit (0 : Nat)); letI z16 := List.length ys; letI z18 := (uS z6 (unu z7) (z12 + (1 : Nat))); letI z19 := (((Int.toNat z0) : Nat) : Int); letI z21 := Bool.true = Bool.true; letI z22 := ((1 : Nat) = (1 : Nat)); letI z24 := (List (Option Nat)); (True ∧ (True ∧ (pcond (Decidable.decide ((0 : Int) ≤ z1)) (True ∧ (True ∧ (True ∧ (True ∧ (True ∧ (True ∧ (True ∧ (True ∧ (True ∧ (True ∧ (True ∧ (True ∧ ((((((0 : Int) ≤ z1) ∧ (z1 ≤ z19)) ∧ ((((0 : Int) ≤ z0) ∧ (z0 ≤ z19)) ∧ (((0 : Int) ≤ z0) ∧ ((z0 ≤ ((z10 : Nat) : Int)) ∧ z21)))) ∧ z22) ∧ (True ∧ ((((((41 : Nat) = (41 : Nat)) ∧ z21) ∧ ((z7 = (u32s (unu z7))) ∧ (z20 = (u32s z8)))) ∧ ((((z13 = z13) ∧ (z13 = (z12 + (1 : Nat)))) ∧ (z17 = z12)) ∧ (qHyp z6 (unu z7) z8))) ∧ ((((0 : Int) ≤ z1) ∧ (z1 < (((dM xs ys) : Nat) : Int))) ∧ ((z22 ∧ ((z6 + (1 : Nat)) ≤ (List.length z14))) ∧ (True ∧ (True ∧ (True ∧ (∃ (y : (Prod Nat z11)), (∃ (kp : z24), (((Prod.fst y) < (Prod.fst x)) ∧ (((((Prod.fst y) ≤ (dM xs ys)) ∧ (((List.length (Prod.fst (Prod.snd y))) = z10) ∧ (Dig (Prod.fst (Prod.snd y))))) ∧ (((List.take ((Prod.fst y) + z16) (Prod.fst (Prod.snd y))) = ((List.take (Prod.fst y) (dU0 xs ys)) ++ (dgn z16 ((z9 / ((4294967296 : Nat) ^ (Prod.fst y))) % (nv (dvs ys)))))) ∧ ((Prod.snd (Prod.snd y)) = ((List.replicate (Prod.fst y) (0 : Nat)) ++ (dgn ((dM xs ys) - (Prod.fst y)) ((z9 / ((4294967296 : Nat) ^ (Prod.fst y))) / (nv (dvs ys)))))))) ∧ (viewAll kp [z3, z4, z2, z5, (Prod.mk (10 : Nat) (D.v (Value.int IntKind.i64 (IntKind.wrap IntKind.i64 (z1 - (1 : Int))))))] [(Option.some (Blk.mk (41 : Nat) (u32s ((List.take z6 (unu z7)) ++ ((dgn z12 (z18 % (nv z8))) ++ (List.drop (z6 + z12) (unu z7))))) Bool.true)), (Option.some (Blk.mk (41 : Nat) (List.set z14 z6 (D.v (Value.int IntKind.u32 (((z18 / (nv z8)) : Nat) : Int)))) Bool.true))] [z3, z4, z2, z5, (Prod.mk (10 : Nat) (D.v (Value.int IntKind.i64 ((((Prod.fst y) : Nat) : Int) - (1 : Int)))))] [(Option.some (Blk.mk (41 : TypeId) (u32s (Prod.fst (Prod.snd y))) Bool.true)), (Option.some (Blk.mk (41 : TypeId) (u32s (Prod.snd (Prod.snd y))) Bool.true))]))))))))))))))))))))))))) (∃ (r : z11), (∃ (kp : z24), (((((List.length (Prod.fst r)) = z10) ∧ ((Dig (Prod.fst r)) ∧ ((List.take z16 (Prod.fst r)) = (dgn z16 (z9 % (nv (dvs ys))))))) ∧ ((Prod.snd r) = (dgn (dM xs ys) (z9 / (nv (dvs ys)))))) ∧ ((z15 = z15) ∧ (viewAll kp [z3, z4, z2, z5] [(Option.some (Blk.mk (41 : Nat) z7 Bool.true)), (Option.some (Blk.mk (41 : Nat) z14 Bool.true))] (Prod.fst (Prod.snd ((fun (r_1 : z11) => (Prod.mk z15 (Prod.mk [z3, z4, z2, z5] [(Option.some (Blk.mk (41 : TypeId) (u32s (Prod.fst r_1)) Bool.true)), (Option.some (Blk.mk (41 : TypeId) (u32s (Prod.snd r_1)) Bool.true))]))) r))) (Prod.snd (Prod.snd ((fun (r_1 : z11) => (Prod.mk z15 (Prod.mk [z3, z4, z2, z5] [(Option.some (Blk.mk (41 : TypeId) (u32s (Prod.fst r_1)) Bool.true)), (Option.some (Blk.mk (41 : TypeId) (u32s (Prod.snd r_1)) Bool.true))]))) r)))))))))))) (by kernel_rfl) ?_
  obtain ⟨k, us, qs⟩ := x
  obtain ⟨⟨f1, f2⟩, ⟨f3, f4⟩, ⟨f5, f6⟩, f7, f8, dx, dy, dv⟩ := div_facts hpre
  obtain ⟨⟨⟨⟨hlx, hly⟩, gx, gy⟩, h0⟩, h2, hle⟩ := hpre
  simp only at hJ
  obtain ⟨⟨hk, hul, hud⟩, ht, hq⟩ := hJ
  simp only [true_and, and_true, and_self, IsInt_lit, IsBool_lit, IsStr_lit, Bool.not_eq_true', Bool.not_eq_false', Bool.not_true, Bool.not_false, Int.reduceLE, Int.reduceLT, Int.reduceNeg, Nat.le_refl, Int.le_refl, Nat.reduceLT, Nat.reduceLeDiff, Nat.reduceEqDiff, D.v.injEq, D.tup.injEq, D.agg.injEq, D.ro.injEq, List.cons.injEq, Value.int.injEq, Value.bool.injEq, pcond_true, pcond_false, NamelessL, Nameless, Nat.reduceMul, Nat.reduceAdd, Nat.zero_add, Int.toNat_natCast, unu_u32s, Nat.mul_one]
  refine pcond_intro (fun h => ?_) (fun h => ?_)
  · simp only [decide_eq_true_eq] at h
    obtain ⟨j, rfl⟩ : ∃ j, k = j + 1 := ⟨k - 1, by omega⟩
    have e0 : ((j + 1 : Nat) : Int) - 1 = (j : Int) := by omega
    have w1 : IntKind.i64.wrap (IntKind.i64.wrap ((j : Int) + (ys.length : Int)) + 1) = ((j + ys.length + 1 : Nat) : Int) := by
      rw [wrap_i64_of (n := (j : Int) + (ys.length : Int)) (by omega) (by omega), wrap_i64_of (by omega) (by omega)]; omega
    have w2 : IntKind.i64.wrap ((j : Int) - 1) = (j : Int) - 1 := wrap_i64_of (by omega) (by omega)
    obtain ⟨g1, g2, g3, g4⟩ := div_round (U0 := dU0 xs ys) (X := nv xs * 2 ^ dsh ys) rfl hul hud (show j + 1 + ys.length ≤ xs.length + 1 by omega) f4 f5 ht
    simp only [e0, w1, w2, Int.toNat_natCast, f2, u32s_length, u32s_put]
    have hql : qs.length = dM xs ys := by rw [hq]; simp [dgn_length]; omega
    have hlen : (us.take j ++ (dgn ys.length (uS j us (ys.length + 1) % nv (dvs ys)) ++ us.drop (j + ys.length))).length = xs.length + 1 := by simp [dgn_length]; omega
    refine ⟨⟨⟨by omega, by omega⟩, ⟨by omega, by omega⟩, by omega, by omega⟩, ⟨by omega, ⟨⟨by omega, by omega⟩, by omega⟩, ⟨hud, dv⟩, f3, by rw [f2]; exact g1⟩, ⟨by omega, by omega⟩, by omega, (j, us.take j ++ (dgn ys.length (uS j us (ys.length + 1) % nv (dvs ys)) ++ us.drop (j + ys.length)), qs.set j (uS j us (ys.length + 1) / nv (dvs ys))), [some 0, some 1], by simp only; omega, ?_, ?_⟩
    · refine ⟨⟨by simp only; omega, hlen, Dig.app.2 ⟨hud.take _, Dig.app.2 ⟨dgn_dig _ _, hud.drop _⟩⟩⟩, g4, ?_⟩
      simp only
      have hd1 : nv xs * 2 ^ dsh ys / 4294967296 ^ (j + 1) / nv (dvs ys) = nv xs * 2 ^ dsh ys / 4294967296 ^ j / nv (dvs ys) / 4294967296 := by
        rw [div_pow_succ, Nat.div_div_eq_div_mul, Nat.div_div_eq_div_mul (nv xs * 2 ^ dsh ys / 4294967296 ^ j), Nat.mul_comm 4294967296]
      rw [hq, hd1, ← g2, q_round, show dM xs ys - (j + 1) + 1 = dM xs ys - j by omega]
    · refine of_eq (B := letI z3 := List.length ys; letI z9 := (uS j us (z3 + (1 : Nat))); letI z0 := (u32s ((List.take j us) ++ ((dgn z3 (z9 % (nv (dvs ys)))) ++ (List.drop (j + z3) us)))); letI z1 := (u32s (List.set qs j (z9 / (nv (dvs ys))))); letI z12 := (Cap.toEnd (1 : Nat)); letI z2 := (D.sl (0 : Nat) (0 : Nat) ((List.length xs) + (1 : Nat)) z12); letI z4 := (D.v (Value.int IntKind.i64 (((j : Nat) : Int) - (1 : Int)))); letI z5 := (D.sl (1 : Nat) (0 : Nat) (dM xs ys) z12); letI z6 := (D.v (Value.int IntKind.i64 (((dsh ys) : Nat) : Int))); letI z7 := (Option.some (Blk.mk (41 : Nat) z0 Bool.true)); letI z8 := (Option.some (Blk.mk (41 : Nat) z1 Bool.true)); letI z10 := (D.ro z3 (u32s (dvs ys))); letI z11 := ([] : List (Option Blk)); ((Bool.true = Bool.true) ∧ ((((z7 = z7) ∧ (NamelessL z0)) ∧ (((z8 = z8) ∧ (NamelessL z1)) ∧ (z11 = z11))) ∧ ((True ∧ (z5 = z5)) ∧ ((True ∧ (z6 = z6)) ∧ ((True ∧ (z2 = z2)) ∧ ((True ∧ (z10 = z10)) ∧ ((True ∧ (z4 = z4)) ∧ True)))))))) (by kernel_rfl) ?_
      simp [u32s_nameless]
  · simp only [decide_eq_false_iff_not] at h
    have hk0 : k = 0 := by omega
    subst hk0
    simp only [Nat.zero_add, List.take_zero, List.nil_append, Nat.pow_zero, Nat.div_one, List.replicate_zero, Nat.sub_zero] at ht hq
    refine ⟨(us, qs), [some 0, some 1], ⟨⟨hul, hud, ht⟩, hq⟩, ?_⟩
    refine of_eq (B := letI z7 := (Cap.toEnd (1 : Nat)); letI z0 := (D.sl (0 : Nat) (0 : Nat) ((List.length xs) + (1 : Nat)) z7); letI z1 := (D.sl (1 : Nat) (0 : Nat) (dM xs ys) z7); letI z2 := (D.v (Value.int IntKind.i64 (((dsh ys) : Nat) : Int))); letI z3 := (Option.some (Blk.mk (41 : Nat) (u32s us) Bool.true)); letI z4 := (Option.some (Blk.mk (41 : Nat) (u32s qs) Bool.true)); letI z5 := (D.ro (List.length (dvs ys)) (u32s (dvs ys))); letI z6 := ([] : List (Option Blk)); ((Bool.true = Bool.true) ∧ ((((z3 = z3) ∧ (NamelessL (u32s us))) ∧ (((z4 = z4) ∧ (NamelessL (u32s qs))) ∧ (z6 = z6))) ∧ ((True ∧ (z1 = z1)) ∧ ((True ∧ (z2 = z2)) ∧ ((True ∧ (z0 = z0)) ∧ ((True ∧ (z5 = z5)) ∧ True))))))) (by kernel_rfl) ?_
    simp [u32s_nameless]
theorem cmp_canon {xs ys : List Nat} (gx : xs = dg (nv xs)) (gy : ys = dg (nv ys)) : cmpL xs ys = cmpN (nv xs) (nv ys) := by
  have := cmpL_dg (nv xs) (nv ys)
  rwa [← gx, ← gy] at this
theorem idivB_pure (xs ys : List Nat) (hpre : dHyp xs ys ∧ nv xs < nv ys) : PureJ Try.prog 51 [.ro xs.length (u32s xs), .ro ys.length (u32s ys)] (.tup [.ro (dg (nv xs / nv ys)).length (u32s (dg (nv xs / nv ys))), .ro (dg (nv xs % nv ys)).length (u32s (dg (nv xs % nv ys)))]) := by
  refine pureJ_of_vcpN (call := (addPure 65 ent_icompare (addPure 87 ent_iclone noCalls))) (lp := fun _ => none) (N := 10) T_ok mixed (addPure_ok ent_icompare_ok (addPure_ok ent_iclone_ok noCalls_ok)) Try.func51 rfl (by decide) (by kernel_rfl) (by kernel_rfl) (LpAllP.none _) (by first | trivial | (simp only [NamelessL, Nameless, and_self, and_true, true_and]; done) | (simp [NamelessL, Nameless, u32s_nameless, namelessL_ints]; done)) (by first | trivial | (simp only [NamelessL, Nameless, and_self, and_true, true_and]; done) | (simp [NamelessL, Nameless, u32s_nameless, namelessL_ints]; done)) ?_
  refine of_eq (B := letI z3 := (((List.length ys) : Nat) : Int); letI z0 := (IntKind.wrap IntKind.i64 (z3 - (1 : Int))); letI z4 := (unu (u32s xs)); letI z2 := (List.length z4); letI z1 := (((u32s xs) = (u32s z4)) ∧ ((List.length xs) = z2)); letI z5 := (z1 ∧ (z2 ≤ (1000000 : Nat))); letI z6 := ((Int.toNat z0) * (1 : Nat)); letI z7 := (unu (u32s ys)); letI z8 := (dg ((nv xs) / (nv ys))); letI z9 := (dg ((nv xs) % (nv ys))); letI z10 := (List.length (u32s ys)); (True ∧ (True ∧ (True ∧ (True ∧ (((((u32s ys) = (u32s z7)) ∧ ((List.length ys) = (List.length z7))) ∧ (z1 ∧ (z2 ≤ (1000000000000 : Nat)))) ∧ (True ∧ (pcond (Decidable.decide ((cmpL z4 z7) < (0 : Int))) (True ∧ (z5 ∧ (True ∧ (True ∧ (True ∧ ((True ∧ (True ∧ True)) ∧ ((D.tup [(D.ro (0 : Nat) ([] : List D)), (D.ro z2 (u32s z4))]) = (D.tup [(D.ro (List.length z8) (u32s z8)), (D.ro (List.length z9) (u32s z9))])))))))) (True ∧ (True ∧ (True ∧ (pcond (z3 == (1 : Int)) (True ∧ (z5 ∧ (True ∧ (True ∧ (True ∧ ((((0 : Int) ≤ (0 : Int)) ∧ ((0 : Int) < z3)) ∧ ((((0 : Nat) < z10) ∧ (IsInt IntKind.u32 (List.getD (u32s ys) (0 : Nat) (Inhabited.default)))) ∧ False))))))) (True ∧ (True ∧ (True ∧ (True ∧ ((((0 : Int) ≤ z0) ∧ (z0 < z3)) ∧ (((z6 < z10) ∧ (IsInt IntKind.u32 (List.getD (u32s ys) z6 (Inhabited.default)))) ∧ False)))))))))))))))))) (by kernel_rfl) ?_
  simp only [true_and, and_true, and_self, IsInt_lit, IsBool_lit, IsStr_lit, Bool.not_eq_true', Bool.not_eq_false', Bool.not_true, Bool.not_false, Int.reduceLE, Int.reduceLT, Int.reduceNeg, Nat.le_refl, Int.le_refl, Nat.reduceLT, Nat.reduceLeDiff, Nat.reduceEqDiff, D.v.injEq, D.tup.injEq, D.agg.injEq, D.ro.injEq, List.cons.injEq, Value.int.injEq, Value.bool.injEq, pcond_true, pcond_false, NamelessL, Nameless, Nat.reduceMul, Nat.reduceAdd, Nat.zero_add, Int.toNat_natCast, unu_u32s]
  obtain ⟨⟨⟨⟨hlx, hly⟩, gx, gy⟩, h0⟩, hlt⟩ := hpre
  have hc : decide (cmpL xs ys < 0) = true := by rw [cmp_canon gx gy]; simp [cmpN, hlt]
  rw [hc, pcond_true, Nat.div_eq_of_lt hlt, Nat.mod_eq_of_lt hlt, ← gx, dg_zero]
  exact ⟨by omega, by omega, ⟨rfl, rfl⟩, rfl, rfl⟩
def ent_idivB : Ent := fun ds => match ds with
  | [.ro n_xs ys_xs, .ro n_ys ys_ys] => some (.tup [.ro (dg (nv (unu ys_xs) / nv (unu ys_ys))).length (u32s (dg (nv (unu ys_xs) / nv (unu ys_ys)))), .ro (dg (nv (unu ys_xs) % nv (unu ys_ys))).length (u32s (dg (nv (unu ys_xs) % nv (unu ys_ys))))], (ys_ys = u32s (unu ys_ys) ∧ n_ys = (unu ys_ys).length) ∧ (ys_xs = u32s (unu ys_xs) ∧ n_xs = (unu ys_xs).length) ∧ dHyp (unu ys_xs) (unu ys_ys) ∧ nv (unu ys_xs) < nv (unu ys_ys))
  | _ => none
theorem ent_idivB_ok : EntOk Try.prog 51 ent_idivB := by
  intro ds d c h hc; unfold ent_idivB at h; split at h
  · rename_i n_xs ys_xs n_ys ys_ys; obtain ⟨rfl, rfl⟩ := pair_inj h
    obtain ⟨⟨h1, h2⟩, hc⟩ := hc; subst h2; generalize (unu ys_ys) = ys at *; subst h1
    obtain ⟨⟨h1, h2⟩, hc⟩ := hc; subst h2; generalize (unu ys_xs) = xs at *; subst h1
    exact idivB_pure xs ys hc
  · cases h
theorem idivC_pure (xs ys : List Nat) (hpre : dHyp xs ys ∧ nv ys ≤ nv xs ∧ ys.length = 1) : PureJ Try.prog 51 [.ro xs.length (u32s xs), .ro ys.length (u32s ys)] (.tup [.ro (dg (nv xs / nv ys)).length (u32s (dg (nv xs / nv ys))), .ro (dg (nv xs % nv ys)).length (u32s (dg (nv xs % nv ys)))]) := by
  refine pureJ_of_vcpN (call := (addPure 65 ent_icompare (addMake 87 entk_clone (addMut 88 entm_dig (addPure 89 ent_itrim (addPure 66 ent_idigits noCalls)))))) (lp := fun _ => none) (N := 10) T_ok mixed (addPure_ok ent_icompare_ok (addMake_ok entk_clone_ok (addMut_ok entm_dig_ok (addPure_ok ent_itrim_ok (addPure_ok ent_idigits_ok noCalls_ok))))) Try.func51 rfl (by decide) (by kernel_rfl) (by kernel_rfl) (LpAllP.none _) (by first | trivial | (simp only [NamelessL, Nameless, and_self, and_true, true_and]; done) | (simp [NamelessL, Nameless, u32s_nameless, namelessL_ints]; done)) (by first | trivial | (simp only [NamelessL, Nameless, and_self, and_true, true_and]; done) | (simp [NamelessL, Nameless, u32s_nameless, namelessL_ints]; done)) ?_
  refine of_eq (B := letI z6 := List.length xs; letI z8 := (unu (u32s xs)); letI z22 := (nv (List.take z6 z8)); letI z5 := (List.getD (u32s ys) (0 : Nat) (Inhabited.default)); letI z16 := (Int.toNat (cellInt z5)); letI z0 := (u32s ((dgn z6 (z22 / z16)) ++ (List.drop z6 z8))); letI z1 := (IntKind.wrap IntKind.u64 (((z22 % z16) : Nat) : Int)); letI z12 := (z6 * (1 : Nat)); letI z2 := (List.take z12 (List.drop (0 : Nat) z0)); letI z3 := (List.length z8); letI z10 := (((List.length ys) : Nat) : Int); letI z4 := (IntKind.wrap IntKind.i64 (z10 - (1 : Int))); letI z17 := (dg ((nv xs) / (nv ys))); letI z18 := (dg ((nv xs) % (nv ys))); letI z7 := (D.tup [(D.ro (List.length z17) (u32s z17)), (D.ro (List.length z18) (u32s z18))]); letI z11 := ((u32s xs) = (u32s z8)); letI z23 := (z11 ∧ (z6 = z3)); letI z15 := (1000000 : Nat); letI z9 := (z23 ∧ (((0 : Nat) < z3) ∧ (z3 ≤ z15))); letI z13 := ((Int.toNat z4) * (1 : Nat)); letI z14 := (unu (u32s ys)); letI z19 := ((0 : Nat) < (1 : Nat)); letI z20 := (List.length (u32s ys)); letI z21 := (List.length (unu z2)); letI z24 := (dg (Int.toNat z1)); (True ∧ (True ∧ (True ∧ (True ∧ (((((u32s ys) = (u32s z14)) ∧ ((List.length ys) = (List.length z14))) ∧ (z23 ∧ (z3 ≤ (1000000000000 : Nat)))) ∧ (True ∧ (pcond (Decidable.decide ((cmpL z8 z14) < (0 : Int))) (True ∧ (z9 ∧ (True ∧ (True ∧ (True ∧ ((True ∧ (((NamelessL (u32s xs)) ∧ (z19 ∧ (((0 : Nat) + z12) ≤ (List.length (u32s xs))))) ∧ True)) ∧ ((D.tup [(D.ro (0 : Nat) ([] : List D)), (D.ro z6 (List.take z12 (List.drop (0 : Nat) (u32s xs))))]) = z7))))))) (True ∧ (True ∧ (True ∧ (pcond (z10 == (1 : Int)) (True ∧ (z9 ∧ (True ∧ (True ∧ (True ∧ ((((0 : Int) ≤ (0 : Int)) ∧ ((0 : Int) < z10)) ∧ ((((0 : Nat) < z20) ∧ (IsInt IntKind.u32 z5)) ∧ ((((((41 : Nat) = (41 : Nat)) ∧ ((0 : Nat) = (0 : Nat))) ∧ z11) ∧ ((((0 : Int) < (cellInt z5)) ∧ ((cellInt z5) < (4294967296 : Int))) ∧ (((z6 ≤ z3) ∧ (z3 ≤ z15)) ∧ (Dig z8)))) ∧ (True ∧ (True ∧ (((((NamelessL z0) ∧ (z19 ∧ (((0 : Nat) + z12) ≤ (List.length z0)))) ∧ True) ∧ (((z2 = (u32s (unu z2))) ∧ (z6 = z21)) ∧ (z21 ≤ z15))) ∧ (True ∧ (True ∧ ((((0 : Int) ≤ z1) ∧ (z1 < (18446744073709551616 : Int))) ∧ (True ∧ (True ∧ (True ∧ ((True ∧ (True ∧ True)) ∧ ((D.tup [(D.ro (List.length (trimL (unu z2))) (u32s (trimL (unu z2)))), (D.ro (List.length z24) (u32s z24))]) = z7))))))))))))))))))) (True ∧ (True ∧ (True ∧ (True ∧ ((((0 : Int) ≤ z4) ∧ (z4 < z10)) ∧ (((z13 < z20) ∧ (IsInt IntKind.u32 (List.getD (u32s ys) z13 (Inhabited.default)))) ∧ False)))))))))))))))))) (by kernel_rfl) ?_
  simp only [true_and, and_true, and_self, IsInt_lit, IsBool_lit, IsStr_lit, Bool.not_eq_true', Bool.not_eq_false', Bool.not_true, Bool.not_false, Int.reduceLE, Int.reduceLT, Int.reduceNeg, Nat.le_refl, Int.le_refl, Nat.reduceLT, Nat.reduceLeDiff, Nat.reduceEqDiff, D.v.injEq, D.tup.injEq, D.agg.injEq, D.ro.injEq, List.cons.injEq, Value.int.injEq, Value.bool.injEq, pcond_true, pcond_false, NamelessL, Nameless, Nat.reduceMul, Nat.reduceAdd, Nat.zero_add, Int.toNat_natCast, unu_u32s]
  obtain ⟨⟨⟨⟨hlx, hly⟩, gx, gy⟩, h0⟩, hle, h1⟩ := hpre
  have dx : Dig xs := by rw [gx]; exact dg_dig _
  have dy : Dig ys := by rw [gy]; exact dg_dig _
  have hc : decide (cmpL xs ys < 0) = false := by rw [cmp_canon gx gy]; unfold cmpN; rw [if_neg (by omega)]; split <;> rfl
  have hc2 : ((ys.length : Int) == 1) = true := by simp; omega
  obtain ⟨y, rfl⟩ : ∃ y, ys = [y] := List.length_eq_one_iff.1 h1
  have hv : nv [y] = y := by simp [nv]
  have hy := dy.get 0
  have hxl : 0 < xs.length := by
    rcases Nat.eq_zero_or_pos xs.length with h | h
    · have : xs = [] := List.eq_nil_of_length_eq_zero h
      subst this
      rw [hv] at hle h0
      rw [nv] at hle; omega
    · exact h
  have hg : ([y] : List Nat).getD 0 0 = y := rfl
  rw [hg] at hy
  rw [hc, hc2, pcond_false, pcond_true]
  rw [hv] at hle h0 ⊢
  have hm := Nat.mod_lt (nv xs) h0
  have w1 : IntKind.u64.wrap ((nv xs % y : Nat) : Int) = ((nv xs % y : Nat) : Int) := wrap_u64_of (Int.natCast_nonneg _) (by omega)
  have e3 : List.take xs.length (u32s (dgn xs.length (nv xs / y))) = u32s (dgn xs.length (nv xs / y)) := by rw [u32s_take, List.take_of_length_le (by rw [dgn_length]; exact Nat.le_refl _)]
  have ht : trimL (dgn xs.length (nv xs / y)) = dg (nv xs / y) := trimL_dgn (Nat.lt_of_le_of_lt (Nat.div_le_self _ _) (nv_lt dx))
  simp only [u32s_cell, hg, Int.toNat_natCast, u32s_isInt [y] 0 (by simp), and_true, List.take_length, List.drop_length, List.append_nil, Nat.mul_one, List.drop_zero, e3, unu_u32s, u32s_length, dgn_length, ht, w1]
  refine ⟨by omega, ⟨hxl, by omega⟩, by simp, by simp, ⟨⟨by omega, by omega⟩, by omega, dx⟩, ⟨⟨u32s_nameless _, Nat.le_refl _⟩, trivial, by omega⟩, ?_⟩
  exact ⟨Int.natCast_nonneg _, by omega⟩
def ent_idivC : Ent := fun ds => match ds with
  | [.ro n_xs ys_xs, .ro n_ys ys_ys] => some (.tup [.ro (dg (nv (unu ys_xs) / nv (unu ys_ys))).length (u32s (dg (nv (unu ys_xs) / nv (unu ys_ys)))), .ro (dg (nv (unu ys_xs) % nv (unu ys_ys))).length (u32s (dg (nv (unu ys_xs) % nv (unu ys_ys))))], (ys_ys = u32s (unu ys_ys) ∧ n_ys = (unu ys_ys).length) ∧ (ys_xs = u32s (unu ys_xs) ∧ n_xs = (unu ys_xs).length) ∧ dHyp (unu ys_xs) (unu ys_ys) ∧ nv (unu ys_ys) ≤ nv (unu ys_xs) ∧ (unu ys_ys).length = 1)
  | _ => none
theorem ent_idivC_ok : EntOk Try.prog 51 ent_idivC := by
  intro ds d c h hc; unfold ent_idivC at h; split at h
  · rename_i n_xs ys_xs n_ys ys_ys; obtain ⟨rfl, rfl⟩ := pair_inj h
    obtain ⟨⟨h1, h2⟩, hc⟩ := hc; subst h2; generalize (unu ys_ys) = ys at *; subst h1
    obtain ⟨⟨h1, h2⟩, hc⟩ := hc; subst h2; generalize (unu ys_xs) = xs at *; subst h1
    exact idivC_pure xs ys hc
  · cases h
theorem idivA_pure (xs ys : List Nat) (hpre : dHyp2 xs ys ∧ nv ys ≤ nv xs) : PureJ Try.prog 51 [.ro xs.length (u32s xs), .ro ys.length (u32s ys)] (.tup [.ro (dg (nv xs / nv ys)).length (u32s (dg (nv xs / nv ys))), .ro (dg (nv xs % nv ys)).length (u32s (dg (nv xs % nv ys)))]) := by
  refine pureJ_of_vcpN (call := (addPure 65 ent_icompare (addMake 87 entk_clone (addPure 91 ent_ilead32 (addMake 92 entk_shl (addPure 89 ent_itrim (addPure 94 ent_ishr noCalls))))))) (lp := fun k => bif Nat.beq k 11 then some (lp_divLoop xs ys) else none) (N := 10) T_ok mixed (addPure_ok ent_icompare_ok (addMake_ok entk_clone_ok (addPure_ok ent_ilead32_ok (addMake_ok entk_shl_ok (addPure_ok ent_itrim_ok (addPure_ok ent_ishr_ok noCalls_ok)))))) Try.func51 rfl (by decide) (by kernel_rfl) (by kernel_rfl) (of_eq (B := LRuleP Try.prog Try.f51.ntmps (loopAt ((Try.f51.body).getD .skip) 11) (lp_divLoop xs ys) ∧ True) (by kernel_rfl) ⟨divLoop_rule xs ys hpre.1, trivial⟩) (by first | trivial | (simp only [NamelessL, Nameless, and_self, and_true, true_and]; done) | (simp [NamelessL, Nameless, u32s_nameless, namelessL_ints]; done)) (by first | trivial | (simp only [NamelessL, Nameless, and_self, and_true, true_and]; done) | (simp [NamelessL, Nameless, u32s_nameless, namelessL_ints]; done)) ?_
  refine of_eq (B := letI z12 := List.length ys; letI z21 := ((z12 : Nat) : Int); letI z4 := (IntKind.wrap IntKind.i64 (z21 - (1 : Int))); letI z34 := ((Int.toNat z4) * (1 : Nat)); letI z8 := (List.getD (u32s ys) z34 (Inhabited.default)); letI z0 := ((((32 : Nat) - (bl (Int.toNat (cellInt z8)))) : Nat) : Int); letI z14 := List.length xs; letI z1 := (IntKind.wrap IntKind.i64 ((IntKind.wrap IntKind.i64 (((z14 : Nat) : Int) - z21)) + (1 : Int))); letI z22 := (unu (u32s ys)); letI z11 := (List.length z22); letI z26 := (z11 + (1 : Nat)); letI z36 := ((2 : Nat) ^ (Int.toNat z0)); letI z6 := (u32s (dgn z26 ((nv z22) * z36))); letI z2 := (List.take (z26 * (1 : Nat)) (List.drop (0 : Nat) z6)); letI z43 := (List.length (dvs ys)); letI z7 := ((z43 : Nat) : Int); letI z35 := ((Int.toNat z7) - (0 : Nat)); letI z3 := (z35 * (1 : Nat)); letI z25 := (unu (u32s xs)); letI z5 := (List.length z25); letI z9 := (((u32s xs) = (u32s z25)) ∧ (z14 = z5)); letI z39 := (dg ((nv xs) / (nv ys))); letI z40 := (dg ((nv xs) % (nv ys))); letI z10 := (D.tup [(D.ro (List.length z39) (u32s z39)), (D.ro (List.length z40) (u32s z40))]); letI z13 := ((dM xs ys) * (1 : Nat)); letI z15 := ((nv xs) * ((2 : Nat) ^ (dsh ys))); letI z16 := (((dsh ys) : Nat) : Int); letI z17 := (u32s (dgn (z5 + (1 : Nat)) ((nv z25) * z36))); letI z18 := (1000000 : Nat); letI z19 := (List.replicate (dM xs ys) (0 : Nat)); letI z37 := Int.toNat z1; letI z20 := (List.replicate z37 (D.v (Value.int IntKind.u32 (0 : Int)))); letI z23 := ((0 : Nat) < (1 : Nat)); letI z24 := (Cap.toEnd (1 : Nat)); letI z27 := (z14 + (1 : Nat)); letI z28 := (z9 ∧ (((0 : Nat) < z5) ∧ (z5 ≤ z18))); letI z29 := Bool.true = Bool.true; letI z30 := (((u32s ys) = (u32s z22)) ∧ (z12 = z11)); letI z31 := (((0 : Int) ≤ z0) ∧ (z0 < (32 : Int))); letI z32 := (z15 / ((4294967296 : Nat) ^ (dM xs ys))); letI z33 := ((2 : Nat) ^ (Int.toNat z16)); letI z38 := ([] : List (Option Blk)); letI z41 := (List.length (u32s ys)); letI z42 := (List.length (unu z2)); (True ∧ (True ∧ (True ∧ (True ∧ ((z30 ∧ (z9 ∧ (z5 ≤ (1000000000000 : Nat)))) ∧ (True ∧ (pcond (Decidable.decide ((cmpL z25 z22) < (0 : Int))) (True ∧ (z28 ∧ (True ∧ (True ∧ (True ∧ ((True ∧ (((NamelessL (u32s xs)) ∧ (z23 ∧ (((0 : Nat) + (z14 * (1 : Nat))) ≤ (List.length (u32s xs))))) ∧ True)) ∧ ((D.tup [(D.ro (0 : Nat) ([] : List D)), (D.ro z14 (List.take (z14 * (1 : Nat)) (List.drop (0 : Nat) (u32s xs))))]) = z10))))))) (True ∧ (True ∧ (True ∧ (pcond (z21 == (1 : Int)) (True ∧ (z28 ∧ (True ∧ (True ∧ (True ∧ ((((0 : Int) ≤ (0 : Int)) ∧ ((0 : Int) < z21)) ∧ ((((0 : Nat) < z41) ∧ (IsInt IntKind.u32 (List.getD (u32s ys) (0 : Nat) (Inhabited.default)))) ∧ False))))))) (True ∧ (True ∧ (True ∧ (True ∧ ((((0 : Int) ≤ z4) ∧ (z4 < z21)) ∧ (((z34 < z41) ∧ (IsInt IntKind.u32 z8)) ∧ ((((0 : Int) ≤ (cellInt z8)) ∧ ((cellInt z8) < (4294967296 : Int))) ∧ (True ∧ (True ∧ (True ∧ ((z9 ∧ (((z5 ≤ z18) ∧ (Dig z25)) ∧ z31)) ∧ (True ∧ (True ∧ ((z30 ∧ (((z11 ≤ z18) ∧ (Dig z22)) ∧ z31)) ∧ (((((NamelessL z6) ∧ (z23 ∧ (((0 : Nat) + (z26 * (1 : Nat))) ≤ (List.length z6)))) ∧ True) ∧ (((z2 = (u32s (unu z2))) ∧ (z26 = z42)) ∧ (z42 ≤ z18))) ∧ (True ∧ (True ∧ (True ∧ (True ∧ (True ∧ (True ∧ (True ∧ (True ∧ ((((0 : Int) ≤ z1) ∧ ((z1 ≤ z1) ∧ ((((4 : Int) * z1) ≤ (281474976710656 : Int)) ∧ (z1 ≤ (9223372036854775807 : Int))))) ∧ (True ∧ (True ∧ (True ∧ (True ∧ (True ∧ (((((dM xs ys) ≤ (dM xs ys)) ∧ (((List.length (dU0 xs ys)) = z27) ∧ (Dig (dU0 xs ys)))) ∧ (((List.take ((dM xs ys) + z12) (dU0 xs ys)) = ((List.take (dM xs ys) (dU0 xs ys)) ++ (dgn z12 (z32 % (nv (dvs ys)))))) ∧ (z19 = (z19 ++ (dgn ((dM xs ys) - (dM xs ys)) (z32 / (nv (dvs ys)))))))) ∧ ((z29 ∧ (((((Option.some (Blk.mk (41 : Nat) (u32s (dU0 xs ys)) Bool.true)) = (Option.some (Blk.mk (41 : Nat) z17 Bool.true))) ∧ (NamelessL z17)) ∧ ((((Option.some (Blk.mk (41 : Nat) (u32s z19) Bool.true)) = (Option.some (Blk.mk (41 : Nat) z20 Bool.true))) ∧ (NamelessL z20)) ∧ (z38 = z38))) ∧ ((True ∧ ((D.sl (1 : Nat) (0 : Nat) z37 z24) = (D.sl (1 : Nat) (0 : Nat) (dM xs ys) z24))) ∧ ((True ∧ ((D.v (Value.int IntKind.i64 z0)) = (D.v (Value.int IntKind.i64 z16)))) ∧ ((True ∧ ((D.sl (0 : Nat) (0 : Nat) (z5 + (1 : Nat)) z24) = (D.sl (0 : Nat) (0 : Nat) z27 z24))) ∧ ((True ∧ ((D.ro (List.length (trimL (unu z2))) (u32s (trimL (unu z2)))) = (D.ro z43 (u32s (dvs ys))))) ∧ ((True ∧ ((D.v (Value.int IntKind.i64 (IntKind.wrap IntKind.i64 (((z37 : Nat) : Int) - (1 : Int))))) = (D.v (Value.int IntKind.i64 ((((dM xs ys) : Nat) : Int) - (1 : Int)))))) ∧ True))))))) ∧ (∀ (r : (Prod (List Nat) (List Nat))), (((((List.length (Prod.fst r)) = z27) ∧ ((Dig (Prod.fst r)) ∧ ((List.take z12 (Prod.fst r)) = (dgn z12 (z15 % (nv (dvs ys))))))) ∧ ((Prod.snd r) = (dgn (dM xs ys) (z15 / (nv (dvs ys)))))) → (True ∧ (((((NamelessL (u32s (Prod.snd r))) ∧ (z23 ∧ (((0 : Nat) + z13) ≤ (List.length (u32s (Prod.snd r)))))) ∧ True) ∧ ((((List.take z13 (List.drop (0 : Nat) (u32s (Prod.snd r)))) = (u32s (unu (List.take z13 (List.drop (0 : Nat) (u32s (Prod.snd r))))))) ∧ ((dM xs ys) = (List.length (unu (List.take z13 (List.drop (0 : Nat) (u32s (Prod.snd r)))))))) ∧ ((List.length (unu (List.take z13 (List.drop (0 : Nat) (u32s (Prod.snd r)))))) ≤ z18))) ∧ (True ∧ (True ∧ (True ∧ (True ∧ (True ∧ (((True ∧ ((((0 : Int) ≤ z7) ∧ (z7 ≤ (((Int.toNat z7) : Nat) : Int))) ∧ (((0 : Int) ≤ z7) ∧ ((z7 ≤ ((z27 : Nat) : Int)) ∧ z29)))) ∧ ((1 : Nat) = (1 : Nat))) ∧ (True ∧ (((((NamelessL (u32s (Prod.fst r))) ∧ (z23 ∧ (((0 : Nat) + z3) ≤ (List.length (u32s (Prod.fst r)))))) ∧ (True ∧ True)) ∧ ((((List.take z3 (List.drop (0 : Nat) (u32s (Prod.fst r)))) = (u32s (unu (List.take z3 (List.drop (0 : Nat) (u32s (Prod.fst r))))))) ∧ (z35 = (List.length (unu (List.take z3 (List.drop (0 : Nat) (u32s (Prod.fst r)))))))) ∧ ((((List.length (unu (List.take z3 (List.drop (0 : Nat) (u32s (Prod.fst r)))))) ≤ z18) ∧ (Dig (unu (List.take z3 (List.drop (0 : Nat) (u32s (Prod.fst r))))))) ∧ (((0 : Int) ≤ z16) ∧ (z16 < (32 : Int)))))) ∧ (True ∧ (True ∧ (z29 ∧ (True ∧ ((True ∧ (True ∧ True)) ∧ ((D.tup [(D.ro (List.length (trimL (unu (List.take z13 (List.drop (0 : Nat) (u32s (Prod.snd r))))))) (u32s (trimL (unu (List.take z13 (List.drop (0 : Nat) (u32s (Prod.snd r)))))))), (D.ro (List.length (dg ((nv (unu (List.take z3 (List.drop (0 : Nat) (u32s (Prod.fst r)))))) / z33))) (u32s (dg ((nv (unu (List.take z3 (List.drop (0 : Nat) (u32s (Prod.fst r)))))) / z33))))]) = z10))))))))))))))))))))))))))))))))))))))))))))))))))))))))))))) (by kernel_rfl) ?_
  simp only [true_and, and_true, and_self, IsInt_lit, IsBool_lit, IsStr_lit, Bool.not_eq_true', Bool.not_eq_false', Bool.not_true, Bool.not_false, Int.reduceLE, Int.reduceLT, Int.reduceNeg, Nat.le_refl, Int.le_refl, Nat.reduceLT, Nat.reduceLeDiff, Nat.reduceEqDiff, D.v.injEq, D.tup.injEq, D.agg.injEq, D.ro.injEq, List.cons.injEq, Value.int.injEq, Value.bool.injEq, pcond_true, pcond_false, NamelessL, Nameless, Nat.reduceMul, Nat.reduceAdd, Nat.zero_add, Int.toNat_natCast, unu_u32s]
  obtain ⟨hd, hle⟩ := hpre
  obtain ⟨⟨f1, f2⟩, ⟨f3, f4⟩, ⟨f5, f6⟩, f7, f8, dx, dy, dv⟩ := div_facts hd
  obtain ⟨⟨⟨⟨hlx, hly⟩, gx, gy⟩, h0⟩, h2, hll⟩ := hd
  have hc : decide (cmpL xs ys < 0) = false := by rw [cmp_canon gx gy]; unfold cmpN; rw [if_neg (by omega)]; split <;> rfl
  have hc2 : ((ys.length : Int) == 1) = false := by simp; omega
  have w1 : IntKind.i64.wrap ((ys.length : Int) - 1) = ((ys.length - 1 : Nat) : Int) := by rw [wrap_i64_of (by omega) (by omega)]; omega
  have hsh : 32 - bl (ys.getD (ys.length - 1) 0) = dsh ys := rfl
  rw [hc, hc2, pcond_false, pcond_false]
  have w2 : IntKind.i64.wrap (IntKind.i64.wrap ((xs.length : Int) - (ys.length : Int)) + 1) = ((dM xs ys : Nat) : Int) := by
    rw [wrap_i64_of (n := (xs.length : Int) - (ys.length : Int)) (by omega) (by omega), wrap_i64_of (by omega) (by omega)]; unfold dM; omega
  have w3 : IntKind.i64.wrap ((dM xs ys : Int) - 1) = (dM xs ys : Int) - 1 := wrap_i64_of (by omega) (by omega)
  have hyt := dy.get (ys.length - 1)
  obtain ⟨s1, s2⟩ := div_start (M := dM xs ys) (n := ys.length) (V := nv (dvs ys)) dx f7 f8 (by omega) f6
  have e0 : List.replicate (dM xs ys) (D.v (Value.int IntKind.u32 0)) = u32s (List.replicate (dM xs ys) 0) := u32s_replicate _ 0
  have e3 : List.take (ys.length + 1) (u32s (dgn (ys.length + 1) (nv ys * 2 ^ dsh ys))) = u32s (dgn (ys.length + 1) (nv ys * 2 ^ dsh ys)) := by rw [u32s_take, List.take_of_length_le (by rw [dgn_length]; exact Nat.le_refl _)]
  have ht : trimL (dgn (ys.length + 1) (nv ys * 2 ^ dsh ys)) = dvs ys := trimL_dgn (by
    rw [← f1, Nat.pow_succ]
    have := Nat.mul_le_mul_left (4294967296 ^ ys.length) (show 1 ≤ 4294967296 by decide)
    omega)
  have hU : dU0 xs ys = dgn (xs.length + 1) (nv xs * 2 ^ dsh ys) := rfl
  simp only [w1, w2, w3, Int.toNat_natCast, Nat.mul_one, u32s_cell, u32s_length, hsh, u32s_isInt ys (ys.length - 1) (by omega), and_true, List.drop_zero, e3, unu_u32s, ht, e0, f2, dgn_length, Nat.sub_self, Nat.sub_zero, s2, hU]
  refine ⟨by omega, ⟨by omega, by omega⟩, by omega, ⟨by omega, by omega⟩, ⟨⟨by omega, dx⟩, by omega, by omega⟩, ⟨⟨by omega, dy⟩, by omega, by omega⟩, ⟨⟨u32s_nameless _, Nat.le_refl _⟩, trivial, by omega⟩, ⟨by omega, by omega, by omega⟩, ⟨⟨trivial, dgn_dig _ _⟩, s1, by simp [dgn]⟩, ⟨⟨trivial, u32s_nameless _⟩, trivial, u32s_nameless _⟩, ?_⟩
  rintro ⟨us, qs⟩ ⟨⟨hul, hud, hut⟩, hq⟩
  simp only at hul hud hut hq
  subst hq
  have hXV : nv xs * 2 ^ dsh ys / nv (dvs ys) < 4294967296 ^ dM xs ys := by
    rw [Nat.div_lt_iff_lt_mul f4, Nat.mul_comm (4294967296 ^ _), ← Nat.div_lt_iff_lt_mul (pow_pos32 _)]
    exact (Nat.div_eq_zero_iff_lt f4).1 s2
  have hmod := Nat.mod_lt (nv xs * 2 ^ dsh ys) f4
  have hq1 : trimL (dgn (dM xs ys) (nv xs * 2 ^ dsh ys / nv (dvs ys))) = dg (nv xs / nv ys) := by
    rw [trimL_dgn hXV, f1, scale_div]
  have hr1 : nv (dgn ys.length (nv xs * 2 ^ dsh ys % nv (dvs ys))) / 2 ^ dsh ys = nv xs % nv ys := by
    rw [nv_dgn, Nat.mod_eq_of_lt (Nat.lt_trans hmod f5), f1, scale_mod]
  have e5 : List.take (dM xs ys) (u32s (dgn (dM xs ys) (nv xs * 2 ^ dsh ys / nv (dvs ys)))) = u32s (dgn (dM xs ys) (nv xs * 2 ^ dsh ys / nv (dvs ys))) := by rw [u32s_take, List.take_of_length_le (by rw [dgn_length]; exact Nat.le_refl _)]
  have e6 : List.take ys.length (u32s us) = u32s (dgn ys.length (nv xs * 2 ^ dsh ys % nv (dvs ys))) := by rw [u32s_take, hut]
  simp only [e5, e6, unu_u32s, hq1, hr1, dgn_length]
  exact ⟨⟨⟨u32s_nameless _, Nat.le_refl _⟩, ⟨trivial, trivial⟩, by omega⟩, ⟨by omega, by omega, by omega⟩, ⟨⟨u32s_nameless _, by omega⟩, ⟨trivial, trivial⟩, ⟨by omega, dgn_dig _ _⟩, by omega, by omega⟩, ⟨trivial, trivial⟩, trivial, trivial⟩
def ent_idivA : Ent := fun ds => match ds with
  | [.ro n_xs ys_xs, .ro n_ys ys_ys] => some (.tup [.ro (dg (nv (unu ys_xs) / nv (unu ys_ys))).length (u32s (dg (nv (unu ys_xs) / nv (unu ys_ys)))), .ro (dg (nv (unu ys_xs) % nv (unu ys_ys))).length (u32s (dg (nv (unu ys_xs) % nv (unu ys_ys))))], (ys_ys = u32s (unu ys_ys) ∧ n_ys = (unu ys_ys).length) ∧ (ys_xs = u32s (unu ys_xs) ∧ n_xs = (unu ys_xs).length) ∧ dHyp2 (unu ys_xs) (unu ys_ys) ∧ nv (unu ys_ys) ≤ nv (unu ys_xs))
  | _ => none
theorem ent_idivA_ok : EntOk Try.prog 51 ent_idivA := by
  intro ds d c h hc; unfold ent_idivA at h; split at h
  · rename_i n_xs ys_xs n_ys ys_ys; obtain ⟨rfl, rfl⟩ := pair_inj h
    obtain ⟨⟨h1, h2⟩, hc⟩ := hc; subst h2; generalize (unu ys_ys) = ys at *; subst h1
    obtain ⟨⟨h1, h2⟩, hc⟩ := hc; subst h2; generalize (unu ys_xs) = xs at *; subst h1
    exact idivA_pure xs ys hc
  · cases h
theorem idiv_pure (xs ys : List Nat) (hpre : dHyp xs ys) : PureJ Try.prog 51 [.ro xs.length (u32s xs), .ro ys.length (u32s ys)] (.tup [.ro (dg (nv xs / nv ys)).length (u32s (dg (nv xs / nv ys))), .ro (dg (nv xs % nv ys)).length (u32s (dg (nv xs % nv ys)))]) := by
  rcases Nat.lt_or_ge (nv xs) (nv ys) with h | h
  · exact idivB_pure xs ys ⟨hpre, h⟩
  · by_cases h1 : ys.length = 1
    · exact idivC_pure xs ys ⟨hpre, h, h1⟩
    · refine idivA_pure xs ys ⟨⟨hpre, ?_, ?_⟩, h⟩
      · obtain ⟨⟨_, gx, gy⟩, h0⟩ := hpre
        rcases Nat.eq_zero_or_pos ys.length with h2 | h2
        · have : ys = [] := List.eq_nil_of_length_eq_zero h2
          subst this
          rw [nv] at h0; omega
        · omega
      · obtain ⟨⟨_, gx, gy⟩, h0⟩ := hpre
        have := dg_len_mono h
        rw [← gx, ← gy] at this
        exact this
def ent_idiv : Ent := fun ds => match ds with
  | [.ro n1 y1, .ro n2 y2] => some (.tup [.ro (dg (nv (unu y1) / nv (unu y2))).length (u32s (dg (nv (unu y1) / nv (unu y2)))), .ro (dg (nv (unu y1) % nv (unu y2))).length (u32s (dg (nv (unu y1) % nv (unu y2))))],
      ((y1 = u32s (unu y1) ∧ n1 = (unu y1).length) ∧ (y2 = u32s (unu y2) ∧ n2 = (unu y2).length)) ∧ dHyp (unu y1) (unu y2))
  | _ => none
theorem ent_idiv_ok : EntOk Try.prog 51 ent_idiv := by
  intro ds d c h hc; unfold ent_idiv at h; split at h
  · rename_i n1 y1 n2 y2; obtain ⟨rfl, rfl⟩ := pair_inj h
    obtain ⟨⟨⟨h1, h2⟩, h3, h4⟩, hc⟩ := hc
    subst h2; subst h4
    generalize unu y1 = xs at *
    generalize unu y2 = ys at *
    subst h1; subst h3
    exact idiv_pure xs ys hc
  · cases h
end Go.Proofs.Ythnhfkpihbjddaa
end
