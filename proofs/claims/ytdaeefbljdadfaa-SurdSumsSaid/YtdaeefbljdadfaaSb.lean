/- Layer 2: products and norms of the program; the fixed check; the law. -/
import Derived.Test.YtdaeefbljdadfaaSa
import Derived.Test.YtdaeefbljdadfaaEb
import Derived.Test.YtdaeefbljdadfaaRows
namespace Go.Proofs.Ytdaeefbljdadfaa
open Go.VD
set_option linter.unusedVariables false
set_option linter.unusedSimpArgs false
set_option maxRecDepth 100000

def ent_x_add64 : Ent := fun ds => match ds with
  | [.v (.int .u64 x), .v (.int .u64 y), .v (.int .u64 c)] => some (.tup [.v (.int .u64 ((x + y + c) % 18446744073709551616)), .v (.int .u64 ((x + y + c) / 18446744073709551616))], 0 ≤ x ∧ 0 ≤ y ∧ 0 ≤ c ∧ c ≤ 1)
  | _ => none
theorem ent_x_add64_ok : ∀ ds d c, ent_x_add64 ds = some (d, c) → c → ExtJ Try.prog 69 ds d := by
  intro ds d c h hc; unfold ent_x_add64 at h; split at h
  · obtain ⟨rfl, rfl⟩ := pair_inj h
    exact ext_add64 Try.func69 (by kernel_rfl) (by kernel_rfl) (by kernel_rfl) (by kernel_rfl) hc.1 hc.2.1 hc.2.2.1 hc.2.2.2
  · cases h
def ent_x_sub64 : Ent := fun ds => match ds with
  | [.v (.int .u64 x), .v (.int .u64 y), .v (.int .u64 c)] => some (.tup [.v (.int .u64 ((x - y - c) % 18446744073709551616)), .v (.int .u64 (bif decide (x < y + c) then 1 else 0))], 0 ≤ x ∧ 0 ≤ y ∧ x < 18446744073709551616 ∧ y < 18446744073709551616 ∧ 0 ≤ c ∧ c ≤ 1)
  | _ => none
theorem ent_x_sub64_ok : ∀ ds d c, ent_x_sub64 ds = some (d, c) → c → ExtJ Try.prog 57 ds d := by
  intro ds d c h hc; unfold ent_x_sub64 at h; split at h
  · obtain ⟨rfl, rfl⟩ := pair_inj h
    exact ext_sub64 Try.func57 (by kernel_rfl) (by kernel_rfl) (by kernel_rfl) (by kernel_rfl) hc.1 hc.2.1 hc.2.2.1 hc.2.2.2.1 hc.2.2.2.2.1 hc.2.2.2.2.2
  · cases h
/-- closed calls of both -/
def base : VD.Callee := fun g ds H => bif Nat.beq g 69 then (match ds with
    | [.v (.int .u64 x), .v (.int .u64 y), .v (.int .u64 c)] => bif decide (0 ≤ x) && (decide (0 ≤ y) && (decide (0 ≤ c) && decide (c ≤ 1))) then some (.tup [.v (.int .u64 ((x + y + c) % 18446744073709551616)), .v (.int .u64 ((x + y + c) / 18446744073709551616))], H, .no) else none
    | _ => none) else none
theorem base_ok : CallOk Try.prog base := by
  intro g ds H d H' t h K hk
  unfold base at h
  cases hg : Nat.beq g 69 with
  | false => simp [hg] at h
  | true =>
    rw [hg] at h
    have hgf : g = 69 := Nat.eq_of_beq_eq_true hg
    subst hgf
    simp only [cond_true] at h
    split at h
    · rename_i x y c
      cases hb : (decide (0 ≤ x) && (decide (0 ≤ y) && (decide (0 ≤ c) && decide (c ≤ 1)))) with
      | false => rw [hb] at h; cases h
      | true =>
        rw [hb] at h
        simp only [Bool.and_eq_true, decide_eq_true_eq] at hb
        simp only [cond_true, Option.some.injEq, Prod.mk.injEq] at h
        obtain ⟨rfl, rfl, rfl⟩ := h
        exact .ext _ (ent_x_add64_ok _ _ _ rfl hb) hk
    · cases h
theorem known_pure : PureJ Try.prog 10 [] (.v (.bool true)) :=
  pure_of_ev T_ok mixed base_ok (N := 1000) (n := 50) Try.func10 rfl (by kernel_rfl)
def ent_known : Ent := fun ds => match ds with
  | [] => some (.v (.bool true), True)
  | _ => none
theorem ent_known_ok : EntOk Try.prog 10 ent_known := by
  intro ds d c h hc; unfold ent_known at h; split at h
  · obtain ⟨rfl, rfl⟩ := pair_inj h; exact known_pure
  · cases h
theorem limited_pure (a b : Int) : PureJ Try.prog 36 [.agg [.v (.int .i64 a), .v (.int .i64 b)]] (d_tri (lim a b)) := by
  refine pureJ_of_vcx (call := (addPure 35 ent_within1 noCalls)) (lp := fun _ => none) (N := 10) T_ok mixed (addPure_ok ent_within1_ok noCalls_ok) Try.func36 rfl (by decide) (by kernel_rfl) (by kernel_rfl) (LpAll.none _) (by first | trivial | (simp only [NamelessL, Nameless, and_self, and_true, true_and]; done) | (simp [NamelessL, Nameless, u32s_nameless, namelessL_ints, d_tri]; done)) (by first | trivial | (simp only [NamelessL, Nameless, and_self, and_true, true_and]; done) | (simp [NamelessL, Nameless, u32s_nameless, namelessL_ints, d_tri]; done)) ?_
  refine of_eq (B := (True ∧ (True ∧ (True ∧ (((2 : Nat) ≤ (2 : Nat)) ∧ ((((2 : Nat) ≤ (16777216 : Nat)) ∧ ((1 : Nat) ≤ (9223372036854775807 : Nat))) ∧ (((True ∧ (((NamelessL [(D.v (Value.int IntKind.i64 a)), (D.v (Value.int IntKind.i64 b))]) ∧ (((0 : Nat) < (2 : Nat)) ∧ ((2 : Nat) ≤ (2 : Nat)))) ∧ True)) ∧ (((0 : Int) ≤ (1152921504606846976 : Int)) ∧ ((1152921504606846976 : Int) < (9223372036854775808 : Int)))) ∧ (True ∧ (pcond (!(within a b (1152921504606846976 : Int))) (True ∧ ((((2 : Nat) = (2 : Nat)) ∧ ((2 : Nat) ≤ (2 : Nat))) ∧ (True ∧ ((((2 : Nat) ≤ (2 : Nat)) ∧ True) ∧ (((True ∧ (True ∧ True)) ∧ (True ∧ True)) ∧ ((D.tup [(D.agg [(D.v (Value.int IntKind.i64 (0 : Int))), (D.v (Value.int IntKind.i64 (0 : Int)))]), (D.v (Value.int IntKind.i64 (2 : Int)))]) = (D.tup [(D.agg [(D.v (Value.int IntKind.i64 (Prod.fst (lim a b)))), (D.v (Value.int IntKind.i64 (Prod.fst (Prod.snd (lim a b)))))]), (D.v (Value.int IntKind.i64 (Prod.snd (Prod.snd (lim a b)))))]))))))) (((2 : Nat) ≤ (2 : Nat)) ∧ ((((2 : Nat) = (2 : Nat)) ∧ ((2 : Nat) ≤ (2 : Nat))) ∧ (True ∧ ((((2 : Nat) ≤ (2 : Nat)) ∧ True) ∧ (((True ∧ (True ∧ True)) ∧ (True ∧ True)) ∧ ((D.tup [(D.agg [(D.v (Value.int IntKind.i64 a)), (D.v (Value.int IntKind.i64 b))]), (D.v (Value.int IntKind.i64 (0 : Int)))]) = (D.tup [(D.agg [(D.v (Value.int IntKind.i64 (Prod.fst (lim a b)))), (D.v (Value.int IntKind.i64 (Prod.fst (Prod.snd (lim a b)))))]), (D.v (Value.int IntKind.i64 (Prod.snd (Prod.snd (lim a b)))))])))))))))))))))) (by kernel_rfl) ?_
  simp only [true_and, and_true, and_self, IsInt_lit, IsBool_lit, IsStr_lit, Bool.not_eq_true', Bool.not_eq_false', Bool.not_true, Bool.not_false, Int.reduceLE, Int.reduceLT, Int.reduceNeg, Nat.le_refl, Int.le_refl, Nat.reduceLT, Nat.reduceLeDiff, Nat.reduceEqDiff, D.v.injEq, D.tup.injEq, D.agg.injEq, D.ro.injEq, List.cons.injEq, Value.int.injEq, Value.bool.injEq, pcond_true, pcond_false, NamelessL, Nameless, Nat.reduceMul, Nat.reduceAdd, Nat.zero_add, Int.toNat_natCast, lim]
  repeat' (refine pcond_intro (fun _ => ?_) (fun _ => ?_))
  all_goals (try simp only [decide_eq_true_eq, decide_eq_false_iff_not, Bool.not_eq_true', Bool.not_eq_false'] at *)
  all_goals (first | (simp only [*, cond_true, cond_false, and_self, lim]; done) | (simp [lim]; done) | (simp [*, lim]; done) | (simp [lim]; omega) | (simp [*, lim]; omega) | (simp_all [lim]; done) | (rw [Bool.eq_iff_iff]; simp; omega) | (trace_state; fail))
def ent_limited : Ent := fun ds => match ds with
  | [.agg [.v (.int .i64 a), .v (.int .i64 b)]] => some (d_tri (lim a b), True)
  | _ => none
theorem ent_limited_ok : EntOk Try.prog 36 ent_limited := by
  intro ds d c h hc; unfold ent_limited at h; split at h
  · obtain ⟨rfl, rfl⟩ := pair_inj h; exact limited_pure _ _
  · cases h
theorem mul_pure (a b c d : Int) : PureJ Try.prog 21 [.agg [.v (.int .i64 a), .v (.int .i64 b)], .agg [.v (.int .i64 c), .v (.int .i64 d)]] (d_tri (mulS a b c d)) := by
  refine pureJ_of_vcx (call := (addPure 35 ent_within2 (addPure 36 ent_limited noCalls))) (lp := fun _ => none) (N := 10) T_ok mixed (addPure_ok ent_within2_ok (addPure_ok ent_limited_ok noCalls_ok)) Try.func21 rfl (by decide) (by kernel_rfl) (by kernel_rfl) (LpAll.none _) (by first | trivial | (simp only [NamelessL, Nameless, and_self, and_true, true_and]; done) | (simp [NamelessL, Nameless, u32s_nameless, namelessL_ints, d_tri]; done)) (by first | trivial | (simp only [NamelessL, Nameless, and_self, and_true, true_and]; done) | (simp [NamelessL, Nameless, u32s_nameless, namelessL_ints, d_tri]; done)) ?_
  refine of_eq (B := (True ∧ (True ∧ (True ∧ (True ∧ (((2 : Nat) ≤ (2 : Nat)) ∧ (((2 : Nat) ≤ (2 : Nat)) ∧ ((((4 : Nat) ≤ (16777216 : Nat)) ∧ ((2 : Nat) ≤ (9223372036854775807 : Nat))) ∧ (((True ∧ (((NamelessL [(D.v (Value.int IntKind.i64 a)), (D.v (Value.int IntKind.i64 b)), (D.v (Value.int IntKind.i64 c)), (D.v (Value.int IntKind.i64 d))]) ∧ (((0 : Nat) < (2 : Nat)) ∧ ((4 : Nat) ≤ (4 : Nat)))) ∧ True)) ∧ (((0 : Int) ≤ (268435456 : Int)) ∧ ((268435456 : Int) < (9223372036854775808 : Int)))) ∧ (True ∧ (pcond (!((within a b (268435456 : Int)) && (within c d (268435456 : Int)))) (True ∧ ((((2 : Nat) = (2 : Nat)) ∧ ((2 : Nat) ≤ (2 : Nat))) ∧ (True ∧ ((((2 : Nat) ≤ (2 : Nat)) ∧ True) ∧ (((True ∧ (True ∧ True)) ∧ (True ∧ True)) ∧ ((D.tup [(D.agg [(D.v (Value.int IntKind.i64 (0 : Int))), (D.v (Value.int IntKind.i64 (0 : Int)))]), (D.v (Value.int IntKind.i64 (1 : Int)))]) = (D.tup [(D.agg [(D.v (Value.int IntKind.i64 (Prod.fst (mulS a b c d)))), (D.v (Value.int IntKind.i64 (Prod.fst (Prod.snd (mulS a b c d)))))]), (D.v (Value.int IntKind.i64 (Prod.snd (Prod.snd (mulS a b c d)))))]))))))) (True ∧ ((((0 : Nat) < (2 : Nat)) ∧ (IsInt IntKind.i64 (D.v (Value.int IntKind.i64 a)))) ∧ (True ∧ ((((0 : Nat) < (2 : Nat)) ∧ (IsInt IntKind.i64 (D.v (Value.int IntKind.i64 c)))) ∧ (True ∧ (True ∧ ((((1 : Nat) < (2 : Nat)) ∧ (IsInt IntKind.i64 (D.v (Value.int IntKind.i64 b)))) ∧ (True ∧ (True ∧ ((((1 : Nat) < (2 : Nat)) ∧ (IsInt IntKind.i64 (D.v (Value.int IntKind.i64 d)))) ∧ (True ∧ (True ∧ (True ∧ ((((0 : Nat) < (2 : Nat)) ∧ (IsInt IntKind.i64 (D.v (Value.int IntKind.i64 a)))) ∧ (True ∧ ((((1 : Nat) < (2 : Nat)) ∧ (IsInt IntKind.i64 (D.v (Value.int IntKind.i64 d)))) ∧ (True ∧ (True ∧ ((((1 : Nat) < (2 : Nat)) ∧ (IsInt IntKind.i64 (D.v (Value.int IntKind.i64 b)))) ∧ (True ∧ ((((0 : Nat) < (2 : Nat)) ∧ (IsInt IntKind.i64 (D.v (Value.int IntKind.i64 c)))) ∧ (True ∧ (True ∧ (True ∧ (True ∧ (True ∧ (True ∧ ((((2 : Nat) = (2 : Nat)) ∧ ((2 : Nat) ≤ (2 : Nat))) ∧ (True ∧ ((((2 : Nat) ≤ (2 : Nat)) ∧ True) ∧ (((True ∧ (True ∧ True)) ∧ (True ∧ True)) ∧ ((D.tup [(D.agg [(D.v (Value.int IntKind.i64 (Prod.fst (lim (IntKind.wrap IntKind.i64 ((IntKind.wrap IntKind.i64 (a * c)) + (IntKind.wrap IntKind.i64 ((IntKind.wrap IntKind.i64 ((3 : Int) * b)) * d)))) (IntKind.wrap IntKind.i64 ((IntKind.wrap IntKind.i64 (a * d)) + (IntKind.wrap IntKind.i64 (b * c)))))))), (D.v (Value.int IntKind.i64 (Prod.fst (Prod.snd (lim (IntKind.wrap IntKind.i64 ((IntKind.wrap IntKind.i64 (a * c)) + (IntKind.wrap IntKind.i64 ((IntKind.wrap IntKind.i64 ((3 : Int) * b)) * d)))) (IntKind.wrap IntKind.i64 ((IntKind.wrap IntKind.i64 (a * d)) + (IntKind.wrap IntKind.i64 (b * c)))))))))]), (D.v (Value.int IntKind.i64 (Prod.snd (Prod.snd (lim (IntKind.wrap IntKind.i64 ((IntKind.wrap IntKind.i64 (a * c)) + (IntKind.wrap IntKind.i64 ((IntKind.wrap IntKind.i64 ((3 : Int) * b)) * d)))) (IntKind.wrap IntKind.i64 ((IntKind.wrap IntKind.i64 (a * d)) + (IntKind.wrap IntKind.i64 (b * c)))))))))]) = (D.tup [(D.agg [(D.v (Value.int IntKind.i64 (Prod.fst (mulS a b c d)))), (D.v (Value.int IntKind.i64 (Prod.fst (Prod.snd (mulS a b c d)))))]), (D.v (Value.int IntKind.i64 (Prod.snd (Prod.snd (mulS a b c d)))))])))))))))))))))))))))))))))))))))))))))))))) (by kernel_rfl) ?_
  simp only [true_and, and_true, and_self, IsInt_lit, IsBool_lit, IsStr_lit, Bool.not_eq_true', Bool.not_eq_false', Bool.not_true, Bool.not_false, Int.reduceLE, Int.reduceLT, Int.reduceNeg, Nat.le_refl, Int.le_refl, Nat.reduceLT, Nat.reduceLeDiff, Nat.reduceEqDiff, D.v.injEq, D.tup.injEq, D.agg.injEq, D.ro.injEq, List.cons.injEq, Value.int.injEq, Value.bool.injEq, pcond_true, pcond_false, NamelessL, Nameless, Nat.reduceMul, Nat.reduceAdd, Nat.zero_add, Int.toNat_natCast, mulS]
  repeat' (refine pcond_intro (fun _ => ?_) (fun _ => ?_))
  all_goals (try simp only [decide_eq_true_eq, decide_eq_false_iff_not, Bool.not_eq_true', Bool.not_eq_false'] at *)
  all_goals (first | (simp only [*, cond_true, cond_false, and_self, mulS]; done) | (simp [mulS]; done) | (simp [*, mulS]; done) | (simp [mulS]; omega) | (simp [*, mulS]; omega) | (simp_all [mulS]; done) | (rw [Bool.eq_iff_iff]; simp; omega) | (trace_state; fail))
def ent_mul : Ent := fun ds => match ds with
  | [.agg [.v (.int .i64 a), .v (.int .i64 b)], .agg [.v (.int .i64 c), .v (.int .i64 d)]] => some (d_tri (mulS a b c d), True)
  | _ => none
theorem ent_mul_ok : EntOk Try.prog 21 ent_mul := by
  intro ds d c h hc; unfold ent_mul at h; split at h
  · obtain ⟨rfl, rfl⟩ := pair_inj h; exact mul_pure _ _ _ _
  · cases h
theorem norm_pure (a b : Int) : PureJ Try.prog 23 [.agg [.v (.int .i64 a), .v (.int .i64 b)]] (d_two (normS a b)) := by
  refine pureJ_of_vcx (call := (addPure 35 ent_within1 noCalls)) (lp := fun _ => none) (N := 10) T_ok mixed (addPure_ok ent_within1_ok noCalls_ok) Try.func23 rfl (by decide) (by kernel_rfl) (by kernel_rfl) (LpAll.none _) (by first | trivial | (simp only [NamelessL, Nameless, and_self, and_true, true_and]; done) | (simp [NamelessL, Nameless, u32s_nameless, namelessL_ints, d_two]; done)) (by first | trivial | (simp only [NamelessL, Nameless, and_self, and_true, true_and]; done) | (simp [NamelessL, Nameless, u32s_nameless, namelessL_ints, d_two]; done)) ?_
  refine of_eq (B := (True ∧ (True ∧ (True ∧ (((2 : Nat) ≤ (2 : Nat)) ∧ ((((2 : Nat) ≤ (16777216 : Nat)) ∧ ((1 : Nat) ≤ (9223372036854775807 : Nat))) ∧ (((True ∧ (((NamelessL [(D.v (Value.int IntKind.i64 a)), (D.v (Value.int IntKind.i64 b))]) ∧ (((0 : Nat) < (2 : Nat)) ∧ ((2 : Nat) ≤ (2 : Nat)))) ∧ True)) ∧ (((0 : Int) ≤ (268435456 : Int)) ∧ ((268435456 : Int) < (9223372036854775808 : Int)))) ∧ (True ∧ (pcond (!(within a b (268435456 : Int))) (True ∧ (True ∧ (True ∧ ((True ∧ (True ∧ True)) ∧ ((D.tup [(D.v (Value.int IntKind.i64 (0 : Int))), (D.v (Value.int IntKind.i64 (1 : Int)))]) = (D.tup [(D.v (Value.int IntKind.i64 (Prod.fst (normS a b)))), (D.v (Value.int IntKind.i64 (Prod.snd (normS a b))))])))))) (True ∧ ((((0 : Nat) < (2 : Nat)) ∧ (IsInt IntKind.i64 (D.v (Value.int IntKind.i64 a)))) ∧ (True ∧ ((((0 : Nat) < (2 : Nat)) ∧ (IsInt IntKind.i64 (D.v (Value.int IntKind.i64 a)))) ∧ (True ∧ (True ∧ ((((1 : Nat) < (2 : Nat)) ∧ (IsInt IntKind.i64 (D.v (Value.int IntKind.i64 b)))) ∧ (True ∧ (True ∧ ((((1 : Nat) < (2 : Nat)) ∧ (IsInt IntKind.i64 (D.v (Value.int IntKind.i64 b)))) ∧ (True ∧ (True ∧ (True ∧ (True ∧ (True ∧ ((True ∧ (True ∧ True)) ∧ ((D.tup [(D.v (Value.int IntKind.i64 (IntKind.wrap IntKind.i64 ((IntKind.wrap IntKind.i64 (a * a)) - (IntKind.wrap IntKind.i64 ((IntKind.wrap IntKind.i64 ((3 : Int) * b)) * b)))))), (D.v (Value.int IntKind.i64 (0 : Int)))]) = (D.tup [(D.v (Value.int IntKind.i64 (Prod.fst (normS a b)))), (D.v (Value.int IntKind.i64 (Prod.snd (normS a b))))]))))))))))))))))))))))))))) (by kernel_rfl) ?_
  simp only [true_and, and_true, and_self, IsInt_lit, IsBool_lit, IsStr_lit, Bool.not_eq_true', Bool.not_eq_false', Bool.not_true, Bool.not_false, Int.reduceLE, Int.reduceLT, Int.reduceNeg, Nat.le_refl, Int.le_refl, Nat.reduceLT, Nat.reduceLeDiff, Nat.reduceEqDiff, D.v.injEq, D.tup.injEq, D.agg.injEq, D.ro.injEq, List.cons.injEq, Value.int.injEq, Value.bool.injEq, pcond_true, pcond_false, NamelessL, Nameless, Nat.reduceMul, Nat.reduceAdd, Nat.zero_add, Int.toNat_natCast, normS]
  repeat' (refine pcond_intro (fun _ => ?_) (fun _ => ?_))
  all_goals (try simp only [decide_eq_true_eq, decide_eq_false_iff_not, Bool.not_eq_true', Bool.not_eq_false'] at *)
  all_goals (first | (simp only [*, cond_true, cond_false, and_self, normS]; done) | (simp [normS]; done) | (simp [*, normS]; done) | (simp [normS]; omega) | (simp [*, normS]; omega) | (simp_all [normS]; done) | (rw [Bool.eq_iff_iff]; simp; omega) | (trace_state; fail))
def ent_norm : Ent := fun ds => match ds with
  | [.agg [.v (.int .i64 a), .v (.int .i64 b)]] => some (d_two (normS a b), True)
  | _ => none
theorem ent_norm_ok : EntOk Try.prog 23 ent_norm := by
  intro ds d c h hc; unfold ent_norm at h; split at h
  · obtain ⟨rfl, rfl⟩ := pair_inj h; exact norm_pure _ _
  · cases h
theorem lawProducts_pure (a b c d : Int) : PureJ Try.prog 5 [.agg [.v (.int .i64 a), .v (.int .i64 b)], .agg [.v (.int .i64 c), .v (.int .i64 d)]] (.v (.bool true)) := by
  refine pureJ_of_vcx (call := (addPure 10 ent_known (addPure 21 ent_mul (addPure 22 ent_refMul (addPure 23 ent_norm (addPure 24 ent_refNorm noCalls)))))) (lp := fun _ => none) (N := 10) T_ok mixed (addPure_ok ent_known_ok (addPure_ok ent_mul_ok (addPure_ok ent_refMul_ok (addPure_ok ent_norm_ok (addPure_ok ent_refNorm_ok noCalls_ok))))) Try.func5 rfl (by decide) (by kernel_rfl) (by kernel_rfl) (LpAll.none _) (by first | trivial | (simp only [NamelessL, Nameless, and_self, and_true, true_and]; done) | (simp [NamelessL, Nameless, u32s_nameless, namelessL_ints]; done)) (by first | trivial | (simp only [NamelessL, Nameless, and_self, and_true, true_and]; done) | (simp [NamelessL, Nameless, u32s_nameless, namelessL_ints]; done)) ?_
  refine of_eq (B := (True ∧ (True ∧ (True ∧ (True ∧ (True ∧ (((2 : Nat) ≤ (2 : Nat)) ∧ (((2 : Nat) ≤ (2 : Nat)) ∧ (True ∧ (True ∧ (True ∧ (True ∧ (True ∧ ((((2 : Nat) = (2 : Nat)) ∧ ((2 : Nat) ≤ (2 : Nat))) ∧ (True ∧ (((2 : Nat) ≤ (2 : Nat)) ∧ (((2 : Nat) ≤ (2 : Nat)) ∧ (True ∧ (True ∧ (True ∧ (True ∧ (True ∧ ((((2 : Nat) = (2 : Nat)) ∧ ((2 : Nat) ≤ (2 : Nat))) ∧ (True ∧ (((2 : Nat) ≤ (2 : Nat)) ∧ (True ∧ (True ∧ (True ∧ (True ∧ (True ∧ (True ∧ (((2 : Nat) ≤ (2 : Nat)) ∧ (True ∧ (True ∧ (True ∧ (True ∧ (True ∧ (True ∧ (((2 : Nat) ≤ (2 : Nat)) ∧ (((2 : Nat) ≤ (2 : Nat)) ∧ ((((((0 : Nat) < (2 : Nat)) ∧ (IsInt IntKind.i64 (D.v (Value.int IntKind.i64 (Prod.fst (mulS a b c d)))))) ∧ (((0 : Nat) < (2 : Nat)) ∧ (IsInt IntKind.i64 (D.v (Value.int IntKind.i64 (Prod.fst (mulS a b c d))))))) ∧ (True ∧ (((((1 : Nat) < (2 : Nat)) ∧ (IsInt IntKind.i64 (D.v (Value.int IntKind.i64 (Prod.fst (Prod.snd (mulS a b c d))))))) ∧ (((1 : Nat) < (2 : Nat)) ∧ (IsInt IntKind.i64 (D.v (Value.int IntKind.i64 (Prod.fst (Prod.snd (mulS a b c d)))))))) ∧ (True ∧ True)))) ∧ (True ∧ (pcond (((Prod.fst (mulS a b c d)) == (Prod.fst (mulS a b c d))) && (((Prod.fst (Prod.snd (mulS a b c d))) == (Prod.fst (Prod.snd (mulS a b c d)))) && Bool.true)) (True ∧ (True ∧ (True ∧ (True ∧ (True ∧ (pcond ((Prod.snd (Prod.snd (mulS a b c d))) == (Prod.snd (Prod.snd (mulS a b c d)))) (True ∧ (True ∧ (True ∧ (True ∧ (True ∧ (pcond ((Prod.fst (normS a b)) == (Prod.fst (normS a b))) (True ∧ (True ∧ (True ∧ (True ∧ (True ∧ (True ∧ (True ∧ ((D.v (Value.bool ((Prod.snd (normS a b)) == (Prod.snd (normS a b))))) = (D.v (Value.bool Bool.true)))))))))) (True ∧ (True ∧ (True ∧ (True ∧ ((D.v (Value.bool Bool.false)) = (D.v (Value.bool Bool.true))))))))))))) (True ∧ (True ∧ (True ∧ (True ∧ (True ∧ (True ∧ ((D.v (Value.bool Bool.false)) = (D.v (Value.bool Bool.true))))))))))))))) (True ∧ (True ∧ (True ∧ (True ∧ (True ∧ (True ∧ (True ∧ (True ∧ ((D.v (Value.bool Bool.false)) = (D.v (Value.bool Bool.true)))))))))))))))))))))))))))))))))))))))))))))))))))))) (by kernel_rfl) ?_
  simp only [true_and, and_true, and_self, IsInt_lit, IsBool_lit, IsStr_lit, Bool.not_eq_true', Bool.not_eq_false', Bool.not_true, Bool.not_false, Int.reduceLE, Int.reduceLT, Int.reduceNeg, Nat.le_refl, Int.le_refl, Nat.reduceLT, Nat.reduceLeDiff, Nat.reduceEqDiff, D.v.injEq, D.tup.injEq, D.agg.injEq, D.ro.injEq, List.cons.injEq, Value.int.injEq, Value.bool.injEq, pcond_true, pcond_false, NamelessL, Nameless, Nat.reduceMul, Nat.reduceAdd, Nat.zero_add, Int.toNat_natCast]
  repeat' (refine pcond_intro (fun _ => ?_) (fun _ => ?_))
  all_goals (try simp only [decide_eq_true_eq, decide_eq_false_iff_not, Bool.not_eq_true', Bool.not_eq_false'] at *)
  all_goals (first | (simp only [*, cond_true, cond_false, and_self]; done) | (simp []; done) | (simp [*]; done) | (simp []; omega) | (simp [*]; omega) | (simp_all []; done) | (rw [Bool.eq_iff_iff]; simp; omega) | (trace_state; fail))
def ent_lawProducts : Ent := fun ds => match ds with
  | [.agg [.v (.int .i64 a), .v (.int .i64 b)], .agg [.v (.int .i64 c), .v (.int .i64 d)]] => some (.v (.bool true), True)
  | _ => none
theorem ent_lawProducts_ok : EntOk Try.prog 5 ent_lawProducts := by
  intro ds d c h hc; unfold ent_lawProducts at h; split at h
  · obtain ⟨rfl, rfl⟩ := pair_inj h; exact lawProducts_pure _ _ _ _
  · cases h
end Go.Proofs.Ytdaeefbljdadfaa
