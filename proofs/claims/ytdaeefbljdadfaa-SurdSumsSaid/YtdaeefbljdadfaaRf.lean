/- Layer 2: the specification's sign and order; the law on signs. -/
import Derived.Test.YtdaeefbljdadfaaRe
import Derived.Test.YtdaeefbljdadfaaSc
namespace Go.Proofs.Ytdaeefbljdadfaa
open Go.VD
set_option linter.unusedVariables false
set_option linter.unusedSimpArgs false
set_option maxRecDepth 100000

theorem ofL_len64 {n : Int} (h : -9223372036854775808 ≤ n ∧ n < 9223372036854775808) : (ofL n).length ≤ 2 := ofL_len (k := 2) (by omega)
theorem refSign_pure (a b : Int) (hpre : (-9223372036854775808 ≤ a ∧ a < 9223372036854775808) ∧ -9223372036854775808 ≤ b ∧ b < 9223372036854775808) : PureJ Try.prog 12 [.agg [.v (.int .i64 a), .v (.int .i64 b)]] (.v (.int .i64 (sg a b))) := by
  refine pureJ_of_vcx (call := (addPure 34 ent_Of (addPure 33 ent_rsign noCalls))) (lp := fun _ => none) (N := 10) T_ok mixed (addPure_ok ent_Of_ok (addPure_ok ent_rsign_ok noCalls_ok)) Try.func12 rfl (by decide) (by kernel_rfl) (by kernel_rfl) (LpAll.none _) (by first | trivial | (simp only [NamelessL, Nameless, and_self, and_true, true_and]; done) | (simp [NamelessL, Nameless, u32s_nameless, namelessL_ints]; done)) (by first | trivial | (simp only [NamelessL, Nameless, and_self, and_true, true_and]; done) | (simp [NamelessL, Nameless, u32s_nameless, namelessL_ints]; done)) ?_
  refine of_eq (B := (True ∧ (True ∧ (True ∧ ((((0 : Nat) < (2 : Nat)) ∧ (IsInt IntKind.i64 (D.v (Value.int IntKind.i64 a)))) ∧ ((((-(9223372036854775808 : Int)) ≤ a) ∧ (a < (9223372036854775808 : Int))) ∧ (True ∧ ((((1 : Nat) < (2 : Nat)) ∧ (IsInt IntKind.i64 (D.v (Value.int IntKind.i64 b)))) ∧ ((((-(9223372036854775808 : Int)) ≤ b) ∧ (b < (9223372036854775808 : Int))) ∧ (((((u32s (ofL b)) = (u32s (unu (u32s (ofL b))))) ∧ ((List.length (ofL b)) = (List.length (unu (u32s (ofL b)))))) ∧ ((((u32s (ofL a)) = (u32s (unu (u32s (ofL a))))) ∧ ((List.length (ofL a)) = (List.length (unu (u32s (ofL a)))))) ∧ (((Good (Decidable.decide (a < (0 : Int))) (unu (u32s (ofL a)))) ∧ ((List.length (unu (u32s (ofL a)))) ≤ (30 : Nat))) ∧ (((Good (Decidable.decide (b < (0 : Int))) (unu (u32s (ofL b)))) ∧ ((List.length (unu (u32s (ofL b)))) ≤ (30 : Nat))) ∧ (((-(1161588808526051807570761628582646656 : Int)) < (iv (Decidable.decide (b < (0 : Int))) (unu (u32s (ofL b))))) ∧ ((iv (Decidable.decide (b < (0 : Int))) (unu (u32s (ofL b)))) < (1161588808526051807570761628582646656 : Int))))))) ∧ (True ∧ ((Bool.true = Bool.true) ∧ (True ∧ (True ∧ ((D.v (Value.int IntKind.i64 (sg (iv (Decidable.decide (a < (0 : Int))) (unu (u32s (ofL a)))) (iv (Decidable.decide (b < (0 : Int))) (unu (u32s (ofL b))))))) = (D.v (Value.int IntKind.i64 (sg a b)))))))))))))))))) (by kernel_rfl) ?_
  simp only [true_and, and_true, and_self, IsInt_lit, IsBool_lit, IsStr_lit, Bool.not_eq_true', Bool.not_eq_false', Bool.not_true, Bool.not_false, Int.reduceLE, Int.reduceLT, Int.reduceNeg, Nat.le_refl, Int.le_refl, Nat.reduceLT, Nat.reduceLeDiff, Nat.reduceEqDiff, D.v.injEq, D.tup.injEq, D.agg.injEq, D.ro.injEq, List.cons.injEq, Value.int.injEq, Value.bool.injEq, pcond_true, pcond_false, NamelessL, Nameless, Nat.reduceMul, Nat.reduceAdd, Nat.zero_add, Int.toNat_natCast, unu_u32s, iv_of]
  have hB := PB_big
  have l1 := ofL_len64 hpre.1
  have l2 := ofL_len64 hpre.2
  exact ⟨hpre.1, hpre.2, ⟨good_of a, by omega⟩, ⟨good_of b, by omega⟩, by omega, by omega⟩
def ent_refSign : Ent := fun ds => match ds with
  | [.agg [.v (.int .i64 a), .v (.int .i64 b)]] => some (.v (.int .i64 (sg a b)), (-9223372036854775808 ≤ a ∧ a < 9223372036854775808) ∧ -9223372036854775808 ≤ b ∧ b < 9223372036854775808)
  | _ => none
theorem ent_refSign_ok : EntOk Try.prog 12 ent_refSign := by
  intro ds d c h hc; unfold ent_refSign at h; split at h
  · obtain ⟨rfl, rfl⟩ := pair_inj h; exact refSign_pure _ _ hc
  · cases h
theorem refCompare_pure (a b c d : Int) : PureJ Try.prog 26 [.agg [.v (.int .i64 a), .v (.int .i64 b)], .agg [.v (.int .i64 c), .v (.int .i64 d)]] (d_two (cmpS a b c d)) := by
  refine pureJ_of_vcx (call := (addPure 37 ent_refwithin (addPure 12 ent_refSign noCalls))) (lp := fun _ => none) (N := 10) T_ok mixed (addPure_ok ent_refwithin_ok (addPure_ok ent_refSign_ok noCalls_ok)) Try.func26 rfl (by decide) (by kernel_rfl) (by kernel_rfl) (LpAll.none _) (by first | trivial | (simp only [NamelessL, Nameless, and_self, and_true, true_and]; done) | (simp [NamelessL, Nameless, u32s_nameless, namelessL_ints, d_two]; done)) (by first | trivial | (simp only [NamelessL, Nameless, and_self, and_true, true_and]; done) | (simp [NamelessL, Nameless, u32s_nameless, namelessL_ints, d_two]; done)) ?_
  refine of_eq (B := (True ∧ (True ∧ (True ∧ (True ∧ (((2 : Nat) ≤ (2 : Nat)) ∧ ((((0 : Int) ≤ (1152921504606846976 : Int)) ∧ ((1152921504606846976 : Int) < (9223372036854775808 : Int))) ∧ (True ∧ (True ∧ (pcond (!(within a b (1152921504606846976 : Int))) (True ∧ (True ∧ (True ∧ (True ∧ ((True ∧ (True ∧ True)) ∧ ((D.tup [(D.v (Value.int IntKind.i64 (0 : Int))), (D.v (Value.int IntKind.i64 (1 : Int)))]) = (D.tup [(D.v (Value.int IntKind.i64 (Prod.fst (cmpS a b c d)))), (D.v (Value.int IntKind.i64 (Prod.snd (cmpS a b c d))))]))))))) (((2 : Nat) ≤ (2 : Nat)) ∧ ((((0 : Int) ≤ (1152921504606846976 : Int)) ∧ ((1152921504606846976 : Int) < (9223372036854775808 : Int))) ∧ (True ∧ (True ∧ (pcond (!(within c d (1152921504606846976 : Int))) (True ∧ (True ∧ (True ∧ ((True ∧ (True ∧ True)) ∧ ((D.tup [(D.v (Value.int IntKind.i64 (0 : Int))), (D.v (Value.int IntKind.i64 (1 : Int)))]) = (D.tup [(D.v (Value.int IntKind.i64 (Prod.fst (cmpS a b c d)))), (D.v (Value.int IntKind.i64 (Prod.snd (cmpS a b c d))))])))))) (True ∧ ((((0 : Nat) < (2 : Nat)) ∧ (IsInt IntKind.i64 (D.v (Value.int IntKind.i64 a)))) ∧ (True ∧ ((((0 : Nat) < (2 : Nat)) ∧ (IsInt IntKind.i64 (D.v (Value.int IntKind.i64 c)))) ∧ (True ∧ (True ∧ ((((1 : Nat) < (2 : Nat)) ∧ (IsInt IntKind.i64 (D.v (Value.int IntKind.i64 b)))) ∧ (True ∧ ((((1 : Nat) < (2 : Nat)) ∧ (IsInt IntKind.i64 (D.v (Value.int IntKind.i64 d)))) ∧ (True ∧ (True ∧ (((((-(9223372036854775808 : Int)) ≤ (IntKind.wrap IntKind.i64 (a - c))) ∧ ((IntKind.wrap IntKind.i64 (a - c)) < (9223372036854775808 : Int))) ∧ (((-(9223372036854775808 : Int)) ≤ (IntKind.wrap IntKind.i64 (b - d))) ∧ ((IntKind.wrap IntKind.i64 (b - d)) < (9223372036854775808 : Int)))) ∧ (True ∧ (True ∧ (True ∧ ((True ∧ (True ∧ True)) ∧ ((D.tup [(D.v (Value.int IntKind.i64 (sg (IntKind.wrap IntKind.i64 (a - c)) (IntKind.wrap IntKind.i64 (b - d))))), (D.v (Value.int IntKind.i64 (0 : Int)))]) = (D.tup [(D.v (Value.int IntKind.i64 (Prod.fst (cmpS a b c d)))), (D.v (Value.int IntKind.i64 (Prod.snd (cmpS a b c d))))]))))))))))))))))))))))))))))))))) (by kernel_rfl) ?_
  simp only [true_and, and_true, and_self, IsInt_lit, IsBool_lit, IsStr_lit, Bool.not_eq_true', Bool.not_eq_false', Bool.not_true, Bool.not_false, Int.reduceLE, Int.reduceLT, Int.reduceNeg, Nat.le_refl, Int.le_refl, Nat.reduceLT, Nat.reduceLeDiff, Nat.reduceEqDiff, D.v.injEq, D.tup.injEq, D.agg.injEq, D.ro.injEq, List.cons.injEq, Value.int.injEq, Value.bool.injEq, pcond_true, pcond_false, NamelessL, Nameless, Nat.reduceMul, Nat.reduceAdd, Nat.zero_add, Int.toNat_natCast]
  refine pcond_intro (fun h => ?_) (fun h => pcond_intro (fun h2 => ?_) (fun h2 => ?_))
  · simp only [Bool.not_eq_true'] at h; simp [cmpS, h]
  · simp only [Bool.not_eq_true'] at h2; simp [cmpS, h2]
  · simp only [Bool.not_eq_false'] at h h2
    have h1 := within_iff.1 h
    have h3 := within_iff.1 h2
    rw [wrap_i64_of (by omega) (by omega), wrap_i64_of (by omega) (by omega)]
    refine ⟨⟨⟨by omega, by omega⟩, by omega, by omega⟩, ?_⟩
    simp [cmpS, h, h2]
def ent_refCompare : Ent := fun ds => match ds with
  | [.agg [.v (.int .i64 a), .v (.int .i64 b)], .agg [.v (.int .i64 c), .v (.int .i64 d)]] => some (d_two (cmpS a b c d), True)
  | _ => none
theorem ent_refCompare_ok : EntOk Try.prog 26 ent_refCompare := by
  intro ds d c h hc; unfold ent_refCompare at h; split at h
  · obtain ⟨rfl, rfl⟩ := pair_inj h; exact refCompare_pure _ _ _ _
  · cases h
theorem lawSigns_pure (a b : Int) (hpre : (-9223372036854775808 ≤ a ∧ a < 9223372036854775808) ∧ -9223372036854775808 ≤ b ∧ b < 9223372036854775808) : PureJ Try.prog 3 [.agg [.v (.int .i64 a), .v (.int .i64 b)]] (.v (.bool true)) := by
  refine pureJ_of_vcx (call := (addPure 10 ent_known (addPure 11 ent_sign (addPure 12 ent_refSign noCalls)))) (lp := fun _ => none) (N := 10) T_ok mixed (addPure_ok ent_known_ok (addPure_ok ent_sign_ok (addPure_ok ent_refSign_ok noCalls_ok))) Try.func3 rfl (by decide) (by kernel_rfl) (by kernel_rfl) (LpAll.none _) (by first | trivial | (simp only [NamelessL, Nameless, and_self, and_true, true_and]; done) | (simp [NamelessL, Nameless, u32s_nameless, namelessL_ints]; done)) (by first | trivial | (simp only [NamelessL, Nameless, and_self, and_true, true_and]; done) | (simp [NamelessL, Nameless, u32s_nameless, namelessL_ints]; done)) ?_
  refine of_eq (B := (True ∧ (True ∧ (True ∧ (True ∧ (((2 : Nat) ≤ (2 : Nat)) ∧ (((((-(9223372036854775808 : Int)) ≤ a) ∧ (a < (9223372036854775808 : Int))) ∧ (((-(9223372036854775808 : Int)) ≤ b) ∧ (b < (9223372036854775808 : Int)))) ∧ (((2 : Nat) ≤ (2 : Nat)) ∧ (((((-(9223372036854775808 : Int)) ≤ a) ∧ (a < (9223372036854775808 : Int))) ∧ (((-(9223372036854775808 : Int)) ≤ b) ∧ (b < (9223372036854775808 : Int)))) ∧ (True ∧ (True ∧ (True ∧ ((Bool.true = Bool.true) ∧ (True ∧ (True ∧ ((D.v (Value.bool ((sg a b) == (sg a b)))) = (D.v (Value.bool Bool.true)))))))))))))))))) (by kernel_rfl) ?_
  simp only [true_and, and_true, and_self, IsInt_lit, IsBool_lit, IsStr_lit, Bool.not_eq_true', Bool.not_eq_false', Bool.not_true, Bool.not_false, Int.reduceLE, Int.reduceLT, Int.reduceNeg, Nat.le_refl, Int.le_refl, Nat.reduceLT, Nat.reduceLeDiff, Nat.reduceEqDiff, D.v.injEq, D.tup.injEq, D.agg.injEq, D.ro.injEq, List.cons.injEq, Value.int.injEq, Value.bool.injEq, pcond_true, pcond_false, NamelessL, Nameless, Nat.reduceMul, Nat.reduceAdd, Nat.zero_add, Int.toNat_natCast]
  exact ⟨hpre, hpre, by simp⟩
def ent_lawSigns : Ent := fun ds => match ds with
  | [.agg [.v (.int .i64 a), .v (.int .i64 b)]] => some (.v (.bool true), (-9223372036854775808 ≤ a ∧ a < 9223372036854775808) ∧ -9223372036854775808 ≤ b ∧ b < 9223372036854775808)
  | _ => none
theorem ent_lawSigns_ok : EntOk Try.prog 3 ent_lawSigns := by
  intro ds d c h hc; unfold ent_lawSigns at h; split at h
  · obtain ⟨rfl, rfl⟩ := pair_inj h; exact lawSigns_pure _ _ hc
  · cases h
end Go.Proofs.Ytdaeefbljdadfaa
